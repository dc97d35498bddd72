import Derived.Test.YtkhagfgineifhaaGreatDoorHRev
set_option maxHeartbeats 2000000
namespace Go.Proofs.YtkhagfgineifhaaGreatDoor
open Go.RowKit
def uk(ns:List Nat)(s:Nat):Nat:=eM (key ns s)
def iB(ns:List Nat)(s:Nat):Nat:=(((aD ns).filter (λt=>decide (Lt ns t s))).map (uk ns)).sum
def cm(ns:List Nat)(k:Nat):Nat:=(((aD ns).take k).map (uk ns)).sum
theorem jv(ns:List Nat)(k:Nat)(h:k<(aD ns).length):cm ns (k+1)=cm ns k+uk ns (aD ns)[k]:=by unfold cm;rw[List.take_succ_eq_append_getElem h,List.map_append,List.sum_append];simp only[List.map_cons,List.map_nil,List.sum_cons,List.sum_nil,Nat.add_zero]
theorem kg(ns:List Nat)(k:Nat)(h:k<(aD ns).length):iB ns (aD ns)[k]=cm ns k:=by
 unfold iB cm;congr 2;have hs:=gR ns;have My:(aD ns)=(aD ns).take k++(aD ns)[k]::(aD ns).drop (k+1):=by rw[<-List.drop_eq_getElem_cons h,List.take_append_drop]
 generalize (aD ns)[k]=x at *
 generalize hA:(aD ns).take k=A at *
 generalize (aD ns).drop (k+1)=B at *
 rw[My]at hs ⊢;rw[List.filter_append,List.filter_cons_of_neg (by simp[Lt.irrefl])];have h1:A.filter (λt=>decide (Lt ns t x))=A:=List.filter_eq_self.2 (λa ha=>by simpa using Sorted.cross hs a ha x (by simp));have h2:B.filter (λt=>decide (Lt ns t x))=[]:=List.filter_eq_nil_iff.2 (λb hb=>by
  have:=(List.pairwise_cons.1 (Sorted.right hs)).1 b hb;simpa using this.asymm)
 rw[h1,h2,List.append_nil]
theorem Ao(ns:List Nat)(i:Nat)(hi:i<=ns.length):((cW ns i).map (uk ns)).sum=measure (ns.take i):=by
 induction i with
 | zero=>simp[cW,measure]
 | succ i ih=>
  have hlt:i<ns.length:=hi;rw[fO,List.map_append,List.sum_append,ih (by omega),List.take_succ_eq_append_getElem hlt,mW,<-aZ hlt];congr 1;by_cases h:key ns i=0
  ·simp[h,eM]
  ·simp[h,uk]
theorem wC{a b:List Nat}(f:Nat->Nat)(h:a.Perm b):(a.map f).sum=(b.map f).sum:=(h.map f).sum_nat
theorem kJ(ns:List Nat):cm ns (aD ns).length=measure ns:=by unfold cm;rw[List.take_of_length_le (Nat.le_refl _),wC _ (fP ns)];have:=Ao ns ns.length (Nat.le_refl _);rw[List.take_of_length_le (Nat.le_refl _)]at this;exact this
theorem lX(ns:List Nat)(k:Nat):cm ns k<=measure ns:=by
 rw[<-kJ];unfold cm;rw[List.take_of_length_le (Nat.le_refl _)];conv=>rhs;rw[<-List.take_append_drop k (aD ns)]
 rw[List.map_append,List.sum_append];omega
theorem GK(d:Nat)(l:List Nat)(h:∀x∈l,d ∣ x):d ∣ l.sum:=by
 induction l with
 | nil=>simp
 | cons a r ih=>
  rw[List.sum_cons];exact Nat.dvd_add (h a (by simp)) (ih (λx hx=>h x (List.mem_cons_of_mem _ hx)))
def dC(ns:List Nat)(s:Nat):Nat:=iB ns s / 2 ^ (15-key ns s)
theorem js(ns:List Nat)(s:Nat):dC ns s*2 ^ (15-key ns s)=iB ns s:=by
 refine Nat.div_mul_cancel (GK _ _ (λx hx=>?_));obtain⟨t,ht,rfl⟩:=List.mem_map.1 hx;have hlt:Lt ns t s:=by simpa using(List.mem_filter.1 ht).2
 have h0:=(aW.1 (List.mem_filter.1 ht).1).2;unfold uk eM;rw[if_neg h0];exact Nat.pow_dvd_pow 2 (by unfold Lt at hlt;omega)
def jp(ns:List Nat)(s:Nat):Nat:=if key ns s=0 then 0 else rv (key ns s) (dC ns s)
def dR(ns:List Nat):List Nat:=(List.range ns.length).map (jp ns)
theorem fD(ns:List Nat):(dR ns).length=ns.length:=by simp[dR]
def iy(ns:List Nat)(k:Nat):List Nat:=(List.range ns.length).map (λs=>if s∈(aD ns).take k then jp ns s else 0)
theorem zD(ns:List Nat):iy ns 0=List.replicate ns.length 0:=by unfold iy;simp[List.map_const']
theorem Dl(ns:List Nat):iy ns (aD ns).length=dR ns:=by
 unfold iy dR;rw[List.take_of_length_le (Nat.le_refl _)];refine List.map_congr_left (λs hs=>?_);by_cases h:s∈aD ns
 ·rw[if_pos h]
 ·rw[if_neg h];have:key ns s=0:=by
   have h2:=mt aW.2 h;simp at hs;exact Classical.byContradiction (λh3=>h2 ⟨hs,h3⟩)
  simp[jp,this]
theorem Ar(ns:List Nat)(k:Nat)(h:k<(aD ns).length):(iy ns k).set (aD ns)[k] (jp ns (aD ns)[k])=iy ns (k+1):=by
 unfold iy;refine List.ext_getElem (by simp) (λj h1 h2=>?_);have hm:j∈(aD ns).take (k+1)↔j∈(aD ns).take k\/j=(aD ns)[k]:=by rw[List.take_succ_eq_append_getElem h,List.mem_append,List.mem_singleton]
 simp only[List.getElem_set,List.getElem_map,List.getElem_range,hm];by_cases e:(aD ns)[k]=j
 ·subst e;simp
 ·have e2:¬j=(aD ns)[k]:=λh=>e h.symm
  simp[e,e2]
theorem uw(ns:List Nat)(k:Nat):(iy ns k).length=ns.length:=by simp[iy]
example:dR [2,1,3,3]=[1,0,3,7]:=by decide
structure Good(zs:List Int)(ns:List Nat):Prop where
 eq:ns.map am=zs.map bI
 len:ns.length=zs.length
 pos:0<ns.length
 max:ns.length<=288
 le:∀n∈ns,n<=15
 ok:bw ns=0
 int:zs=ns.map (fun(n:Nat)=>(n:Int))
theorem JY{zs:List Int}(h:chk zs=0):Good zs (zs.map Int.toNat):=by
 unfold chk at h;split at h
 ·rename_i hok;obtain⟨e,h1,h2,h3⟩:=oh hok;refine⟨e,by simp,by simpa using h1,by simpa using h2,λn hn=>by have:=h3 n hn;omega,h,?_⟩;have e2:=congrArg (List.map (λv:Value=>match v with | .int _ z=>z | _=>0)) e;simp only[List.map_map]at e2;rw[List.map_map];have e3:zs.map ((λv:Value=>match v with | .int _ z=>z | _=>0) ∘ bI)=zs:=by
   conv=>rhs;rw[<-List.map_id zs]
   refine List.map_congr_left (λz _=>rfl)
  rw[e3]at e2;exact e2.symm.trans (List.map_congr_left (λz _=>rfl))
 ·omega
theorem Good.measure_le{zs:List Int}{ns:List Nat}(h:Good zs ns):measure ns<=32768:=by
 have:=h.ok;unfold bw at this;split at this
 ·omega
 ·omega
theorem Good.key_le{zs:List Int}{ns:List Nat}(h:Good zs ns)(s:Nat):key ns s<=15:=by
 by_cases hs:s<ns.length
 ·rw[aZ hs];exact h.le _ (List.getElem_mem _)
 ·simp[key,hs]
theorem DO(w:World)(v:Value)(I:Nat→Prop)(zs:List Int)(hs:SrcE bI w I v zs)(hn:zs.length≤1000000)(hb:chk zs≠0):
  Calls Tryz.prog 146 #[v] w λe w'=>e=.returned (.tuple #[.slice none 0 0,.int .i64 (chk zs:Nat)])/\Same w w':=by
 have HC:=kL w v I zs hs hn;generalize chk zs=c at HC hb;have hd:((c:Int) != 0)=true:=by simp;omega
 clear hs hb;go_enter Tryz.func146,Tryz.ntmps146;go_wp2_with fail;refine HC.mono ?_;rintro e w2 ⟨rfl,hk⟩;have HK:Hid (Same w w2):=hk;clear hk HC;go_wp2_with fail
 first
  | (go_ret2;exact⟨rfl,HK.out⟩)
  | (go_quiet (fail);go_wp2_with fail;go_ret2;exact⟨rfl,HK.out.drewN _⟩)
theorem rG(w:World)(v:Value)(I:Nat→Prop)(zs:List Int)(ns:List Nat)(hs:SrcE bI w I v zs)(hg:Good zs ns)(hb:chk zs=0):
  Calls Tryz.prog 146 #[v] w λe w'=>(∃g n cap,e=.returned (.tuple #[.slice (some ⟨g,0,none⟩) n cap,.int .i64 0])/\Ah w.heap.size w' (.slice (some ⟨g,0,none⟩) n cap) (dR ns))/\Same w w':=by
 obtain⟨ao,cap,rfl,ic,gh⟩:=id hs;clear ic gh;have HC:=kL w _ I zs hs (by have:=hg.len;have:=hg.max;omega);rw[hb]at HC;have HG:Hid (Good zs ns):=hg;have HS:Hid (SrcE am w I (.slice ao zs.length cap) ns):=hid (hs.recode hg.eq);have HL:Hid (zs.length=ns.length):=hg.len.symm;have KE:zs.length<=288:=by have:=hg.len;have:=hg.max;omega
 clear hs hg hb;generalize zs.length=n at *
 go_enter Tryz.func146,Tryz.ntmps146;go_wp2_with fail;refine HC.mono ?_;rintro e w2 ⟨rfl,hk⟩;have HK:Hid (Same w w2):=hk;clear hk HC;go_wp2_with (at_make;refine dm _ mP 0 w.heap.size 111 32 4 Tryz.underlying111 Tryz.infoW rfl (by decide) rfl _ _ rfl _ _ _ _ n rfl rfl rfl rfl (by omega) HK.out.size ?_;intro w3 hr3 jW hs3);have HR3:Hid (Ah w.heap.size w3 (.slice (some ⟨w2.heap.size,0,none⟩) n n) (iy ns 0)):=hid (by rw[zD,<-HL.out];exact hr3);have HK3:Hid (Same w2 w3):=hid ((Kept.refl _ w2).grown jW (by simp));have HK03:Hid (Same w w3):=hid (HK.out.trans HK3.out);have dA:=HK.out.size;clear hr3 jW;have HRI:=lW w3 _ I ns (HS.out.same HK03.out) (by have:=HL.out;omega);go_wp2_with fail;refine HRI.mono ?_;rintro e w4 ⟨v4,rfl,hn4⟩;have HN4:Hid (Ml w3 w4 v4 (aD ns)):=hn4;have HK4:Hid (Kept (·=w2.heap.size) w w4):=hid ((HK03.out.trans hn4.same).mono (λ_ _ h=>h.elim));have HR4:Hid (Ah w.heap.size w4 (.slice (some ⟨w2.heap.size,0,none⟩) n n) (iy ns 0)):=hid (HR3.out.same hn4.same);obtain⟨XW,sf,rfl,RM,_⟩:=hn4.row.shape;have ES:=hn4.same.size;have yw:(aD ns).length<=288:=Nat.le_trans (cJ ns) (by have:=HL.out;omega);clear hn4 HRI HR3;obtain⟨rl,uW⟩:∃rl,rl=(aD ns).length:=⟨_,rfl⟩
 have HRL:Hid (rl=(aD ns).length):=uW;rw[<-uW]at yw ⊢;clear uW RM;go_wp2_with fail;go_loopg [6,7,21] rl (fun q znx zlg zk wr=>∃(k nx lg:Nat),rl-k≤q∧k≤rl∧nx≤32769∧lg≤15∧znx=.int .u32 (nx:Nat)∧zlg=.int .i64 (lg:Nat)∧zk=.int .i64 (k:Nat) ∧
   Hid (nx*2 ^ (15-lg)=cm ns k/\(k=0/\lg=0\/0<k/\∃h:k-1<(aD ns).length,lg=key ns (aD ns)[k-1]))/\Hid (Ah w.heap.size wr (.slice (some ⟨w2.heap.size,0,none⟩) n n) (iy ns k))/\Hid (Kept (·=w2.heap.size) w4 wr))
 case atStart=>exact⟨0,0,0,by omega,by omega,by omega,by omega,rfl,rfl,rfl,hid ⟨by simp[cm],.inl ⟨rfl,rfl⟩⟩,HR4.out,Kept.refl _ _⟩
 case round=>
  obtain⟨k,nx,lg,hq,hk,hnx,RY,rfl,rfl,rfl,HF,HR5,HK5⟩:=hrel;clear HR4;by_cases hlt:k<rl
  ·have yD:k<(aD ns).length:=(by have:=HRL.out;omega);have Ly:NRow w3.heap.size wr (.slice XW (aD ns).length sf) (aD ns):=HN4.out.row.kept HK5.out (λj hj e=>by have:=HN4.out.row.ge hj;omega);obtain⟨b4,o4,Oy,e4,_,_,c4⟩:=(SrcE.ofRow Ly).get k yD;simp only[Value.slice.injEq]at e4;obtain⟨rfl,_,rfl⟩:=e4;obtain⟨s,hs⟩:∃s,s=(aD ns)[k]:=⟨_,rfl⟩
   rw[<-hs]at c4;unfold am at c4;have hsr:s<ns.length/\key ns s≠0:=aW.1 (by rw[hs];exact List.getElem_mem _);have Jj:s<n:=(by have:=HL.out;omega);have hsrc:SrcE am wr (λj=>I j/\j<w.heap.size) (.slice ao n cap) ns:=SrcE.kept (SrcE.kept HS.out.low HK4.out (λj hj _ e=>by omega)) HK5.out (λj hj _ e=>by omega);obtain⟨b,o,cap',e5,_,_,c5⟩:=hsrc.get s hsr.1;simp only[Value.slice.injEq]at e5;obtain⟨rfl,jC,rfl⟩:=e5;clear jC;rw[<-aZ hsr.1]at c5;unfold am at c5;obtain⟨l,hl⟩:∃l,l=key ns s:=⟨_,rfl⟩
   rw[<-hl]at c5;have O9:l<=15:=(by rw[hl];exact HG.out.key_le s);have Sv:0<l:=(by omega);have WA:lg<=l:=by
    rcases HF.out.2 with⟨_,h⟩ | ⟨h0,h1,h2⟩
    ·omega
    ·have:=Sorted.at (gR ns) (show k-1<k by omega) yD;unfold Lt at this;rw[h2,hl,hs];omega
   obtain⟨tI,Nx⟩:∃tI,tI=nx*2 ^ (l-lg):=⟨_,rfl⟩
   have hst:tI*2 ^ (15-l)=cm ns k:=(by rw[Nx,Nat.mul_assoc,<-Nat.pow_add,show l-lg+(15-l)=15-lg by omega];exact HF.out.1);have TZ:tI<=32768:=(by have h1:=lX ns k;have h2:=HG.out.measure_le;have h3:tI*1<=tI*2 ^ (15-l):=Nat.mul_le_mul_left _ (Nat.two_pow_pos _);omega);have tL:dC ns s=tI:=(by have h1:=js ns s;rw[hs,kg ns k yD,<-hs,<-hst,<-hl]at h1;exact Nat.eq_of_mul_eq_mul_right (Nat.two_pow_pos _) h1);have Ct:jp ns s=rv l tI:=(by rw[jp,if_neg hsr.2,tL,<-hl]);have PI:jG tI / 2 ^ (32-l)=rv l tI:=F7 tI l (by omega) (by omega);obtain⟨cr,Pp⟩:∃cr,cr=jp ns s:=⟨_,rfl⟩
   have NA:=fun(wx:World)=>wQ wx tI (by omega)
   have Nt:((jG tI:Nat):Int) / 2 ^ (32-l)=(cr:Int):=(by rw[Pp,Ct,<-PI];simp);have OL:jG tI<4294967296:=wS tI (by omega);generalize jG tI=rr at NA Nt OL;have UJ:(nx:Int)*2 ^ (l-lg) % 4294967296=(tI:Int):=(by have h1:((nx*2 ^ (l-lg):Nat):Int)=(tI:Int):=(by rw[Nx]);rw[Int.natCast_mul,Int.natCast_pow]at h1;rw[show((2:Nat):Int)=2 from rfl]at h1;rw[h1];omega);have UA:((l:Int)-(lg:Int))=((l-lg:Nat):Int):=(by omega);have Ub:((32:Int)-(l:Int))=((32-l:Nat):Int):=(by omega);have Cj:s<(iy ns k).length:=(by rw[uw];exact hsr.1);obtain⟨y,cy⟩:∃y:Nat,wr.cell? ⟨w2.heap.size,s,none⟩=some (.int .u32 (y:Nat)):=⟨_,HR5.out.cell s Cj⟩
   have fy:=HR5.out.frozen s;have HR6:Hid (Ah w.heap.size (wr.setCell ⟨w2.heap.size,s,none⟩ (.int .u32 (cr:Nat))) (.slice (some ⟨w2.heap.size,0,none⟩) n n) (iy ns (k+1))):=hid (by
    have h:=HR5.out.lay s (jp ns s);rw[hs,Ar ns k yD,<-hs,<-Pp]at h;exact h)
   have HF2:Hid ((tI+1)*2 ^ (15-l)=cm ns (k+1)/\(k+1=0/\l=0\/0<k+1/\∃h:k+1-1<(aD ns).length,l=key ns (aD ns)[k+1-1])):=hid (by
    refine⟨?_,.inr ⟨by omega,by simpa using yD,by simpa[<-hs]using hl⟩⟩;rw[jv ns k yD,Nat.add_mul,hst,<-hs,uk,eM,if_neg hsr.2,<-hl];omega)
   clear hs hsr hsrc hl hst Nx tL Ct PI Pp Cj HF Ly;go_wp2_with fail;refine(NA _).mono ?_;rintro e w6 ⟨rfl,rfl⟩;clear NA;go_wp2_with fail;go_roundg (gk-1)
   case measure=>omega
   case rel=>exact⟨k+1,tI+1,l,by omega,by omega,by omega,O9,by congr 1<;>omega,rfl,by go_num,HF2,HR6,HK5.out.setCell _ _ (.inl rfl)⟩
  ·have hk2:k=rl:=(by omega);subst hk2;go_wp2_with fail
   first
    | go_ret2
    | (go_quiet (fail);go_wp2_with fail;go_ret2)
   refine⟨⟨_,_,_,rfl,?_⟩,?_⟩
   ·have h:=HR5.out;rw[HRL.out,Dl]at h;exact h
   ·have h1:=HK4.out.trans HK5.out (H:=(·=w2.heap.size)) (λ_ _ h=>h) (λ_ _ h=>h);exact Same.of h1 (λj hj e=>by omega)
end Go.Proofs.YtkhagfgineifhaaGreatDoor
