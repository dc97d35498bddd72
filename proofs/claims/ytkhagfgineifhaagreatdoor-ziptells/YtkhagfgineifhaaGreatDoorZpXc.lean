import Derived.Test.YtkhagfgineifhaaGreatDoorZpXa
import Derived.Test.YtkhagfgineifhaaGreatDoorZpV
import Derived.Test.YtkhagfgineifhaaGreatDoorZpF
set_option maxHeartbeats 400000
set_option maxRecDepth 100000
namespace Go.Proofs.YtkhagfgineifhaaGreatDoor
open Go.RowKit
theorem qJ(w:World)(a:Option Addr)(len cap:Nat)(E:Nat→En)(hs:Ents w (fun _=>True) a len E)(hn:len≤100000000)(cD:len≤cap)(hx:Mxl w)(hc:fT E len≠0):
  Calls Tryz.prog 6 #[.slice a len cap] w λe w'=>e=.returned (.tuple #[.slice none 0 0,.int .i64 (fT E len:Nat)])/\Same w w':=by
 have HC:=ri w a len cap E hs hn cD hx;obtain⟨c,mv⟩:∃c,c=fT E len:=⟨_,rfl⟩
 rw[<-mv]at HC hc ⊢;have lL:((c:Int) != 0)=true:=by simp;omega
 clear hs mv hc;go_enter Tryz.func6,Tryz.ntmps6;go_wp2_with fail;refine HC.mono ?_;rintro e w1 ⟨rfl,hk1⟩;have HK1:Hid (Same w w1):=hk1;clear hk1 HC;go_wp2_with fail;refine bodyPost_ret (v:=.tuple #[.slice none 0 0,.int .i64 (c:Nat)]) (by simp[results,Tryz.results6,go_sem]) rfl ?_;exact⟨rfl,HK1.out⟩
theorem ox(l:List It)(x:It):aN (l++[x])=aN l++lk x:=by simp[aN]
theorem tp(at':Nat)(l:List It)(x:It):bz at' (l++[x])=bz at' l++k9 x.lab (at'+(aN l).length):=by
 induction l generalizing at' with
 | nil=>simp[bz,aN]
 | cons y r ih=>
  rw[List.cons_append,bz,bz,ih,List.append_assoc];congr 3;simp[aN];omega
structure WrI(w wr:World)(E:Nat->En)(i:Nat)(L:List It)(vp vr:Value):Prop where
 len:L.length=i
 its:∀j x,L[j]? = some x->∃bs,PDef (sb (E j).d) bs/\x=⟨dZ (E j) bs,d8 (E j) bs⟩
 pie:Row wr vp (aN L)
 recs:Row wr vr (bz 0 L)
 newp:∀k,vp.ownBlock=some k->w.heap.size<=k
 newr:∀k,vr.ownBlock=some k->w.heap.size<=k
 apart:∀k,vp.ownBlock=some k->vr.ownBlock≠some k
 same:Same w wr
 lenp:(aN L).length<=i*8400
 lenr:(bz 0 L).length<=i*120
theorem WrI.zero(w wr:World)(E:Nat->En)(hk:Same w wr):WrI w wr E 0 [] (.slice none 0 0) (.slice none 0 0):=
 ⟨rfl,λj x h=>(by simp at h),World.ownsRow_nil wr 0 5 1,World.ownsRow_nil wr 0 5 1,λk e=>(by cases e),λk e=>(by cases e),λk e=>(by cases e),hk,by simp[aN],by simp[bz]⟩
theorem ww{E:Nat->En}{n i:Nat}(h:j6 E n i=0):∀j,i<=j->j<i+n->yM E j=0:=by
 induction n generalizing i with
 | zero=>intro j h1 h2;omega
 | succ n ih=>
  intro j h1 h2;unfold j6 at h;split at h
  ·rename_i h3;by_cases e:j=i
   ·rw[e];exact h3
   ·exact ih h j (by omega) (by omega)
  ·rename_i h3;exact absurd h h3
theorem kD{E:Nat->En}{n:Nat}(h:fT E n=0):n<=64/\∀j,j<n->eZ (sb (E j).n)=true/\(E j).d.size<=8192:=by
 unfold fT at h;split at h
 ·cases h
 ·rename_i h1;refine⟨by omega,λj hj=>?_⟩;have h2:=ww h j (Nat.zero_le _) (by omega);unfold yM at h2;split at h2
  ·cases h2
  ·rename_i h3;split at h2
   ·cases h2
   ·rename_i h4;refine⟨?_,by omega⟩;cases h5:eZ (sb (E j).n) with
    | true=>rfl
    | false=>exact absurd (.inl h5) h3
theorem uH(y:En)(bs:List Nat)(hn:eZ (sb y.n)=true)(hd:y.d.size<=8192):gN (dZ y bs)/\(∀b∈(dZ y bs).name,b<256)/\(dZ y bs).name.length<=64/\(d8 y bs).length<=8192:=by
 have h1:(sb y.n).length<=64:=by unfold eZ at hn;simp only[Bool.and_eq_true,decide_eq_true_eq]at hn;exact hn.1
 have h2:(d8 y bs).length<=8192:=by
  unfold d8;split
  ·omega
  ·rw[dX];exact hd
 refine⟨⟨?_,JU _ _,by show(d8 y bs).length<_;omega,by show y.d.size<_;omega,by show(sb y.n).length<_;omega⟩,λb hb=>pT y.n b hb,h1,h2⟩;show(if bs.length<y.d.size then 8 else 0)<65536;split<;>omega
theorem GU(x:It):(lk x).length=30+x.lab.name.length+x.bytes.length:=by simp[lk,ig,gG,az];omega
theorem xg(m:Mk)(p:Nat):(k9 m p).length=46+m.name.length:=by simp[k9,gG,az];omega
end Go.Proofs.YtkhagfgineifhaaGreatDoor
