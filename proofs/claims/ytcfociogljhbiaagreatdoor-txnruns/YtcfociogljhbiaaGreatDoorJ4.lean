/-
  Of the proof: parts NmK, NbK, ChW, VaB, ChB.
-/
import Derived.WideKeyPair
import Derived.DeepKeys4
import Derived.Sort.Grow
import Derived.Test.YtcfociogljhbiaaGreatDoorJ3
import Derived.Test.YtcfociogljhbiaaGreatDoorJ2

namespace Go.Proofs.YtcfociogljhbiaaGreatDoor
open Go.RowKit Go.Maps

theorem nameKey:Keyed Tryz.prog 9:=string_keyed Tryz.underlying9

structure Nm where
 s:ByteArray
 ok:s.size≤maxLen
 deriving DecidableEq

theorem Nm.ext'{a b:Nm}(h:a.s=b.s):a=b:=by
 cases a
 cases b
 simp only at h
 subst h
 rfl

def nmV(n:Nm):Value:=.string n.s

def kN(n:Nm):Lit:=.string n.s.data.toList

theorem keyN(n:Nm):keyOf Tryz.prog 9 (nmV n)=some (kN n):=Go.WideMaps.keyOf_string_mk Tryz.underlying9 n.ok

theorem klN:KL kN:=⟨fun a b h=>by
  have h1:=nameKey.inj (keyN a) (by rw[h];exact keyN b)
  simp only[nmV,Value.string.injEq]at h1
  exact Nm.ext' h1,fun a=>.inl ⟨_,rfl⟩⟩

end Go.Proofs.YtcfociogljhbiaaGreatDoor

namespace Go.Proofs.YtcfociogljhbiaaGreatDoor
open Go.RowKit Go.Maps

structure Nb where
 v:Int
 ok:(Lit.int .i64 v).wf=true
 deriving DecidableEq

theorem Nb.ext'{a b:Nb}(h:a.v=b.v):a=b:=by
 cases a
 cases b
 simp only at h
 subst h
 rfl

def kI(n:Nb):Lit:=.int .i64 n.v
theorem intKey14:Keyed Tryz.prog 3:=int_keyed Tryz.underlying3
theorem keyI(n:Nb):keyOf Tryz.prog 3 (.int .i64 n.v)=some (kI n):=keyOf_int_mk Tryz.underlying3 n.ok
theorem klI:KL kI:=⟨fun a b h=>by
  simp only[kI,Lit.int.injEq,true_and]at h
  exact Nb.ext' h,fun a=>.inr ⟨_,_,rfl⟩⟩

end Go.Proofs.YtcfociogljhbiaaGreatDoor

namespace Go.Proofs.YtcfociogljhbiaaGreatDoor
open Go.RowKit Go.Maps Go.Sort

theorem Tryz.laidOutC:laidOutB Tryz.prog=true:=by kernel_rfl
theorem boxKey:Keyed Tryz.prog 128:=Keyed.of_law (deep_law_laid Tryz.laidOutC (m:=2) (by omega) (by decide +kernel) (by kernel_rfl) (by kernel_rfl))
structure Bx where
 tn:ByteArray
 ar:ByteArray
 ok:tn.size≤maxLen∧ar.size≤maxLen
 deriving DecidableEq

theorem Bx.ext'{a b:Bx}(h1:a.tn=b.tn)(h2:a.ar=b.ar):a=b:=by
 cases a
 cases b
 simp only at h1 h2
 subst h1 h2
 rfl

def bxV(b:Bx):Value:=.agg #[.string b.tn,.string b.ar]

def kB(b:Bx):Lit:=.string (keyBytes [.string b.tn.data.toList,.string b.ar.data.toList])

theorem keyB(b:Bx):keyOf Tryz.prog 128 (bxV b)=some (kB b):=by
 have hs0:0<Tryz.prog.types.size:=by decide +kernel
 have hsz:∃m,Tryz.prog.types.size=m+1:=⟨Tryz.prog.types.size-1,by omega⟩
 have hkt:Tryz.prog.keyType 128=true:=by kernel_rfl
 have hc:Tryz.prog.cellsOf 128=2:=by kernel_rfl
 have hc1:Tryz.prog.cellsOf 9=1:=by kernel_rfl
 obtain⟨m,hm⟩:=hsz
 unfold keyOf bxV
 simp only[Tryz.underlying128]
 rw[if_pos (by simp[hkt,Value.formed,Tryz.underlying128,hc]),hm]
 unfold Program.keyLits
 simp only[Tryz.underlying128,Value.cells]
 rw[if_pos (by rw[hc];exact⟨rfl,by decide +kernel⟩)]
 simp[hc1,Program.keyLits,Tryz.underlying9,b.ok.1,b.ok.2,kB]

theorem klB:KL kB:=⟨fun a b h=>by
  have h1:=boxKey.inj (keyB a) (by rw[h];exact keyB b)
  simp only[bxV,Value.agg.injEq,Array.mk.injEq,List.cons.injEq,Value.string.injEq,and_true]at h1
  exact Bx.ext' h1.1 h1.2,fun a=>.inl ⟨_,rfl⟩⟩

structure Wr where
 b:Bx
 n:Nm
 there:Bool
 data:ByteArray
 ok:data.size≤maxLen

def wrE(x:Wr):List Value:=[.string x.b.tn,.string x.b.ar,.string x.n.s,.bool x.there,.string x.data]
theorem wrE_ok:EncOk wrE 5:=⟨fun _=>rfl,fun x u hu=>by simp[wrE]at hu;rcases hu with rfl | rfl | rfl | rfl | rfl<;>rfl,by decide⟩

instance:Inhabited Bx:=⟨⟨⟨#[]⟩,⟨#[]⟩,by decide⟩⟩

instance:Inhabited Nm:=⟨⟨⟨#[]⟩,by decide⟩⟩

instance:Inhabited Wr:=⟨⟨default,default,false,⟨#[]⟩,by decide⟩⟩

theorem results_cellC{fn:Func}{p:Tmp}{ty:TypeId}(h:fn.results=#[.cell p ty])(tmps:Array Value)(P:Program)(w:World):
  (results fn tmps).run P w=((asAddr (tmps.getD p undef)).run P w).andThen fun a w1=>(loadVar ty a).run P w1:=by
 simp only[results,h]
 simp[Sem.run_bind,Result.andThen]

theorem same_grow(w:World)(m:Nat)(os:Array Obj):Same w (grow (w.drewN m) os):=⟨rfl,rfl,rfl,by simp[World.drewN],fun k hk _=>by rw[heap_grow_old _ _ (by simpa[World.drewN]using hk)];rfl⟩

def bysN(n:Nm):List UInt8:=n.s.data.toList

theorem bysN_inj{a b:Nm}(h:bysN a=bysN b):a=b:=by
 unfold bysN at h
 refine Nm.ext' ?_
 cases ha:a.s
 cases hb:b.s
 rw[ha,hb]at h
 simp only at h
 rw[Array.toList_inj]at h
 rw[h]

end Go.Proofs.YtcfociogljhbiaaGreatDoor

namespace Go.Proofs.YtcfociogljhbiaaGreatDoor
open Go.RowKit Go.Maps Go.Sort

abbrev Ke:=Bx×Nm

theorem entKey:Keyed Tryz.prog 63:=Keyed.of_law (deep_law_laid Tryz.laidOutC (m:=3) (by omega) (by decide +kernel) (by kernel_rfl) (by kernel_rfl))

def keV(k:Ke):Value:=.agg #[.string k.1.tn,.string k.1.ar,.string k.2.s]

def kK(k:Ke):Lit:=.string (keyBytes [.string k.1.tn.data.toList,.string k.1.ar.data.toList,.string k.2.s.data.toList])

theorem keyE(k:Ke):keyOf Tryz.prog 63 (keV k)=some (kK k):=by
 have hs0:0<Tryz.prog.types.size:=by decide +kernel
 have hsz:∃m,Tryz.prog.types.size=m+1:=⟨Tryz.prog.types.size-1,by omega⟩
 have hkt:Tryz.prog.keyType 63=true:=by kernel_rfl
 have hc:Tryz.prog.cellsOf 63=3:=by kernel_rfl
 have hc1:Tryz.prog.cellsOf 9=1:=by kernel_rfl
 obtain⟨m,hm⟩:=hsz
 unfold keyOf keV
 simp only[Tryz.underlying63]
 rw[if_pos (by simp[hkt,Value.formed,Tryz.underlying63,hc]),hm]
 unfold Program.keyLits
 simp only[Tryz.underlying63,Value.cells]
 rw[if_pos (by rw[hc];exact⟨rfl,by decide +kernel⟩)]
 simp[hc1,Program.keyLits,Tryz.underlying9,k.1.ok.1,k.1.ok.2,k.2.ok,kK]

theorem klK:KL kK:=⟨fun a b h=>by
  have h1:=entKey.inj (keyE a) (by rw[h];exact keyE b)
  simp only[keV,Value.agg.injEq,Array.mk.injEq,List.cons.injEq,Value.string.injEq,and_true]at h1
  exact Prod.ext (Bx.ext' h1.1 h1.2.1) (Nm.ext' h1.2.2),fun a=>.inl ⟨_,rfl⟩⟩

def keO(r:Wr):Ke:=(r.b,r.n)

def wrV(r:Wr):Value:=.agg (wrE r).toArray

def wrR:Value→Option (DataW Unit×List MemPlace)
 | .agg ⟨[.string a,.string b,.string c,.bool t,.string d]⟩=>some (.agg [.lit (.string a.data.toList),.lit (.string b.data.toList),.lit (.string c.data.toList),.lit (.bool t),.lit (.string d.data.toList)],[])
 | _=>none

def wrD(r:Wr):DataW Unit:=.agg [.lit (.string r.b.tn.data.toList),.lit (.string r.b.ar.data.toList),.lit (.string r.n.s.data.toList),.lit (.bool r.there),.lit (.string r.data.data.toList)]

theorem bytes_inj{a b:ByteArray}(h:a.data.toList=b.data.toList):a=b:=by
 cases a
 cases b
 simp only at h
 rw[Array.toList_inj]at h
 rw[h]

def wr0:Wr:=⟨⟨⟨#[]⟩,⟨#[]⟩,by decide⟩,⟨⟨#[]⟩,by decide⟩,false,⟨#[]⟩,by decide⟩

theorem wrR_inv(v:Value)(x:Wr)(ps:List MemPlace)(h:wrR v=some (wrD x,ps)):v=wrV x:=by
 unfold wrR at h
 split at h
 ·simp only[wrD,Option.some.injEq,Prod.mk.injEq,DataW.agg.injEq,List.cons.injEq,DataW.lit.injEq,Lit.string.injEq,Lit.bool.injEq,and_true]at h
  obtain⟨⟨h1,h2,h3,h4,h5⟩,_⟩:=h
  rw[bytes_inj h1,bytes_inj h2,bytes_inj h3,h4,bytes_inj h5]
  rfl
 ·cases h

theorem rdW:RdG wrR wrV wrD (wrV wr0) (wrD wr0):=⟨fun _=>rfl,wrR_inv,rfl,fun v ps h=>wrR_inv v wr0 ps h⟩

def unV(_:Unit):Value:=.agg #[]
def unD(_:Unit):DataW Unit:=.agg []

theorem rdU:RdG unitElem unV unD (.agg #[]) (.agg []):=⟨fun _=>unitElem_mk,fun _ _ _ h=>(unitElem_inv h).1,unitElem_mk,fun _ _ h=>(unitElem_inv h).1⟩

structure Vst where
 t:Int
 rd:List (Ke×Unit)
 ls:List (Bx×Unit)
 st:List (Ke×Wr)

structure Vk(K:Nat)(w:World)(p mr ml ms:Nat)(s:Vst):Prop where
 blk:Blk w p #[.int .i64 s.t,.map (some mr),.map (some ml),.map (some ms)] 169
 rm:MpG 63 unitElem kK unD w mr s.rd
 lm:MpG 128 unitElem kB unD w ml s.ls
 sm:MpG 63 wrR kK wrD w ms s.st
 own:∀x∈s.st,keO x.2=x.1
 ne:mr≠ml∧mr≠ms∧ml≠ms
 lens:s.rd.length≤K∧s.ls.length≤K∧s.st.length≤K
 big:K≤100000

section
variable {K:Nat} {w:World} {p mr ml ms:Nat} {s:Vst}

theorem Vk.kept(h:Vk K w p mr ml ms s){F:Nat→Prop}{w':World}(hk:Kept F w w')(h1:¬F p)(h2:¬F mr)(h3:¬F ml)(h4:¬F ms):Vk K w' p mr ml ms s:=
 {h with blk:=h.blk.kept hk h1,rm:=h.rm.kept hk h2,lm:=h.lm.kept hk h3,sm:=h.sm.kept hk h4}

theorem Vk.same(h:Vk K w p mr ml ms s){w':World}(hk:Same w w'):Vk K w' p mr ml ms s:=h.kept hk (fun f=>f) (fun f=>f) (fun f=>f) (fun f=>f)

theorem blk_ne_map{cs:Array Value}{t:TypeId}{m:Nat}{κ β:Type}{kl:κ→Lit}{dv:β→DataW Unit}{kt:TypeId}{R:Value→Option (DataW Unit×List MemPlace)}{L:List (κ×β)}(h:Blk w p cs t)(hm:MpG kt R kl dv w m L):p≠m:=by
 intro e
 obtain⟨es,cl,h1,_⟩:=hm
 unfold Blk at h
 rw[e,h1]at h
 cases h

theorem Vk.nep(h:Vk K w p mr ml ms s):p≠mr∧p≠ml∧p≠ms:=⟨blk_ne_map h.blk h.rm,blk_ne_map h.blk h.lm,blk_ne_map h.blk h.sm⟩

theorem Vk.apr(h:Vk K w p mr ml ms s):s.rd.Pairwise (fun p q=>p.1≠q.1):=h.rm.apart entKey
theorem Vk.apl(h:Vk K w p mr ml ms s):s.ls.Pairwise (fun p q=>p.1≠q.1):=h.lm.apart boxKey
theorem Vk.aps(h:Vk K w p mr ml ms s):s.st.Pairwise (fun p q=>p.1≠q.1):=h.sm.apart entKey

end

theorem zeroNo(w:World):(zeroValue 191).run Tryz.prog w=.ok (.agg #[]) w:=by kernel_rfl
theorem zeroWr(w:World):(zeroValue 65).run Tryz.prog w=.ok (wrV wr0) w:=by kernel_rfl

section
variable {K:Nat} {w:World} {p mr ml ms:Nat} {s:Vst}

theorem Vk.lookR(h:Vk K w p mr ml ms s)(k:Ke):(Instr.lookup 165 (.map (some mr)) (.agg #[.string k.1.tn,.string k.1.ar,.string k.2.s]) true).run Tryz.prog w=.ok (.tuple #[.agg #[],.bool (getG k s.rd).isSome]) w:=by
 have h1:=h.rm.look klK rdU entKey 165 191 Tryz.underlying165 (zeroNo w) k (keV k) (keyE k)
 rw[show(Value.agg #[.string k.1.tn,.string k.1.ar,.string k.2.s])=keV k from rfl,h1]
 cases getG k s.rd<;>rfl

theorem Vk.lookL(h:Vk K w p mr ml ms s)(b:Bx):(Instr.lookup 166 (.map (some ml)) (.agg #[.string b.tn,.string b.ar]) true).run Tryz.prog w=.ok (.tuple #[.agg #[],.bool (getG b s.ls).isSome]) w:=by
 have h1:=h.lm.look klB rdU boxKey 166 191 Tryz.underlying166 (zeroNo w) b (bxV b) (keyB b)
 rw[show(Value.agg #[.string b.tn,.string b.ar])=bxV b from rfl,h1]
 cases getG b s.ls<;>rfl

theorem Vk.lookS(h:Vk K w p mr ml ms s)(k:Ke):(Instr.lookup 167 (.map (some ms)) (.agg #[.string k.1.tn,.string k.1.ar,.string k.2.s]) true).run Tryz.prog w=.ok (.tuple #[.agg (wrE ((getG k s.st).getD wr0)).toArray,.bool (getG k s.st).isSome]) w:=by
 have h1:=h.sm.look klK rdW entKey 167 65 Tryz.underlying167 (zeroWr w) k (keV k) (keyE k)
 rw[show(Value.agg #[.string k.1.tn,.string k.1.ar,.string k.2.s])=keV k from rfl,h1]
 cases getG k s.st<;>rfl

theorem Vk.putR(h:Vk K w p mr ml ms s)(k:Ke)(hK:K+1≤100000):∃w',(Instr.mapUpdate 165 (.map (some mr)) (.agg #[.string k.1.tn,.string k.1.ar,.string k.2.s]) (.agg #[])).run Tryz.prog w=.ok () w'∧Vk (K+1) w' p mr ml ms {s with rd:=putG kK k () s.rd}∧Kept (·=mr) w w':=by
 have hl:=h.lens
 obtain⟨w',h1,h2,h3⟩:=h.rm.put klK rdU entKey 165 191 Tryz.underlying165 k (keV k) (keyE k) (by have:=h.big;omega) ()
 have hp:=putG_len (kl:=kK) k () s.rd
 refine⟨w',h1,{blk:=h.blk.kept h3 h.nep.1,rm:=h2,lm:=h.lm.kept h3 (fun e=>h.ne.1 e.symm),sm:=h.sm.kept h3 (fun e=>h.ne.2.1 e.symm),own:=h.own,ne:=h.ne,lens:=⟨by show(putG kK k () s.rd).length≤K+1;omega,by show s.ls.length≤K+1;omega,by show s.st.length≤K+1;omega⟩,big:=hK},h3⟩

theorem Vk.putL(h:Vk K w p mr ml ms s)(b:Bx)(hK:K+1≤100000):∃w',(Instr.mapUpdate 166 (.map (some ml)) (.agg #[.string b.tn,.string b.ar]) (.agg #[])).run Tryz.prog w=.ok () w'∧Vk (K+1) w' p mr ml ms {s with ls:=putG kB b () s.ls}∧Kept (·=ml) w w':=by
 have hl:=h.lens
 obtain⟨w',h1,h2,h3⟩:=h.lm.put klB rdU boxKey 166 191 Tryz.underlying166 b (bxV b) (keyB b) (by have:=h.big;omega) ()
 have hp:=putG_len (kl:=kB) b () s.ls
 refine⟨w',h1,{blk:=h.blk.kept h3 h.nep.2.1,rm:=h.rm.kept h3 h.ne.1,lm:=h2,sm:=h.sm.kept h3 (fun e=>h.ne.2.2 e.symm),own:=h.own,ne:=h.ne,lens:=⟨by show s.rd.length≤K+1;omega,by show(putG kB b () s.ls).length≤K+1;omega,by show s.st.length≤K+1;omega⟩,big:=hK},h3⟩

theorem Vk.putS(h:Vk K w p mr ml ms s)(r:Wr)(hK:K+1≤100000):∃w',(Instr.mapUpdate 167 (.map (some ms)) (.agg #[.string r.b.tn,.string r.b.ar,.string r.n.s]) (.agg #[.string r.b.tn,.string r.b.ar,.string r.n.s,.bool r.there,.string r.data])).run Tryz.prog w=.ok () w'∧Vk (K+1) w' p mr ml ms {s with st:=putG kK (keO r) r s.st}∧Kept (·=ms) w w':=by
 have hl:=h.lens
 obtain⟨w',h1,h2,h3⟩:=h.sm.put klK rdW entKey 167 65 Tryz.underlying167 (keO r) (keV (keO r)) (keyE (keO r)) (by have:=h.big;omega) r
 have hp:=putG_len (kl:=kK) (keO r) r s.st
 refine⟨w',h1,{blk:=h.blk.kept h3 h.nep.2.2,rm:=h.rm.kept h3 h.ne.2.1,lm:=h.lm.kept h3 h.ne.2.2,sm:=h2,own:=fun x hx=>?_,ne:=h.ne,lens:=⟨by show s.rd.length≤K+1;omega,by show s.ls.length≤K+1;omega,by show(putG kK (keO r) r s.st).length≤K+1;omega⟩,big:=hK},h3⟩
 rcases putG_mem.1 hx with rfl | h5
 ·rfl
 ·exact h.own x h5.1

end

end Go.Proofs.YtcfociogljhbiaaGreatDoor

namespace Go.Proofs.YtcfociogljhbiaaGreatDoor
open Go.RowKit Go.Maps

def ptC:Value→Option (DataW Unit×List MemPlace)
 | .pointer none=>some (.nil,[])
 | .pointer (some ⟨b,0,none⟩)=>some (.lit (.int .i64 (b:Nat)),[])
 | _=>none

def mpC:Value→Option (DataW Unit×List MemPlace)
 | .map none=>some (.nil,[])
 | .map (some b)=>some (.lit (.int .i64 (b:Nat)),[])
 | _=>none

def ptA(b:Nat):Value:=.pointer (some ⟨b,0,none⟩)
def mpA(b:Nat):Value:=.map (some b)

theorem rdP:RdV ptC ptA (.pointer none):=⟨fun _=>rfl,fun v f ps h=>by
  unfold ptC at h
  split at h
  ·simp at h
  ·simp only[Option.some.injEq,Prod.mk.injEq,DataW.lit.injEq,Lit.int.injEq,true_and]at h
   have h1:=Int.ofNat_inj.1 h.1
   rw[h1];rfl
  ·(cases h),rfl,fun v ps h=>by
  unfold ptC at h
  split at h
  ·rfl
  ·simp at h
  ·cases h⟩

theorem rdM:RdV mpC mpA (.map none):=⟨fun _=>rfl,fun v f ps h=>by
  unfold mpC at h
  split at h
  ·simp at h
  ·simp only[Option.some.injEq,Prod.mk.injEq,DataW.lit.injEq,Lit.int.injEq,true_and]at h
   have h1:=Int.ofNat_inj.1 h.1
   rw[h1];rfl
  ·(cases h),rfl,fun v ps h=>by
  unfold mpC at h
  split at h
  ·rfl
  ·simp at h
  ·cases h⟩

structure Cs where
 now:Int
 floor:Int
 bx:List (Bx×Nat)
 ar:Nat→List (Nm×Nat)
 vr:Nat→List Ver

def fndC(s:Cs)(b:Bx)(n:Nm):Option Nat:=(getK b s.bx).bind (fun a=>getK n (s.ar a))

def vers(s:Cs)(b:Bx)(n:Nm):List Ver:=((fndC s b n).map s.vr).getD []

def ChAt(N:Nat)(w:World)(ρ:Nat→Nat)(c:Nat)(l:List Ver):Prop:=∃v,Blk w c #[v] 202∧RowC N 147 3 verE w v l∧∀k,v.ownBlock=some k→ρ k=10+c

structure VerOk(now:Int)(l:List Ver):Prop where
 ris:RisV l
 low:∀v∈l,1≤v.t∧v.t≤now
 gone:∀v∈l,v.there=false→v.data=⟨#[]⟩
 big:∀v∈l,v.data.size≤maxLen

structure Ck(K N:Nat)(w:World)(p:Nat)(s:Cs)(ρ:Nat→Nat)(mb:Nat):Prop where
 blk:Blk w p #[.int .i64 s.now,.int .i64 s.floor,.map (some mb)] 142
 bm:MpK 128 mpC kB w mb s.bx
 am:∀a,ρ a=3→MpK 9 ptC kN w a (s.ar a)
 cm:∀c,ρ c=4→ChAt N w ρ c (s.vr c)
 okv:∀c,ρ c=4→VerOk s.now (s.vr c)
 ba:∀x∈s.bx,ρ x.2=3
 ac:∀a,ρ a=3→∀x∈s.ar a,ρ x.2=4
 inja:∀x∈s.bx,∀y∈s.bx,x.2=y.2→x.1=y.1
 injc:∀a,ρ a=3→∀a',ρ a'=3→∀x∈s.ar a,∀y∈s.ar a',x.2=y.2→a=a'∧x.1=y.1
 rp:ρ p=1
 rm:ρ mb=2
 new:∀k,ρ k≠0→N≤k∧k<w.heap.size
 lens:s.bx.length≤K∧(∀a,ρ a=3→(s.ar a).length≤K)∧∀c,ρ c=4→(s.vr c).length≤K
 big:K≤100000
 nums:0≤s.floor∧s.floor≤s.now∧s.now≤9223372036854775807

section
variable {K N:Nat} {w:World} {p:Nat} {s:Cs} {ρ:Nat→Nat} {mb:Nat}

theorem Ck.kept(h:Ck K N w p s ρ mb){F:Nat→Prop}{w':World}(hk:Kept F w w')(hF:∀k,F k→ρ k=0):Ck K N w' p s ρ mb:=by
 have hn:∀k,ρ k≠0→¬F k:=fun k h1 h2=>h1 (hF k h2)
 refine {h with blk:=h.blk.kept hk (hn p (by rw[h.rp];decide)),bm:=h.bm.kept hk (hn mb (by rw[h.rm];decide)),am:=fun a ha=>(h.am a ha).kept hk (hn a (by rw[ha];decide)),cm:=fun c hc=>?_,new:=fun k hk2=>⟨(h.new k hk2).1,Nat.lt_of_lt_of_le (h.new k hk2).2 hk.size⟩}
 obtain⟨v,h1,h2,h3⟩:=h.cm c hc
 exact⟨v,h1.kept hk (hn c (by rw[hc];decide)),h2.kept hk (fun k e=>hn k (by rw[h3 k e];omega)),h3⟩

theorem Ck.same(h:Ck K N w p s ρ mb){w':World}(hk:Same w w'):Ck K N w' p s ρ mb:=h.kept hk (fun _ f=>f.elim)

theorem Ck.apb(h:Ck K N w p s ρ mb):s.bx.Pairwise (fun p q=>p.1≠q.1):=h.bm.apart boxKey
theorem Ck.apa(h:Ck K N w p s ρ mb){a:Nat}(ha:ρ a=3):(s.ar a).Pairwise (fun p q=>p.1≠q.1):=(h.am a ha).apart nameKey

theorem Ck.fnd(h:Ck K N w p s ρ mb){b:Bx}{n:Nm}{c:Nat}(hf:fndC s b n=some c):ρ c=4:=by
 unfold fndC at hf
 cases hg:getK b s.bx with
 | none=>rw[hg]at hf;cases hf
 | some a=>
  rw[hg]at hf
  exact h.ac a (h.ba _ (getK_mem hg)) _ (getK_mem hf)

theorem Ck.one(h:Ck K N w p s ρ mb){b b':Bx}{n n':Nm}{c:Nat}(hf:fndC s b n=some c)(hf':fndC s b' n'=some c):b=b'∧n=n':=by
 unfold fndC at hf hf'
 cases hg:getK b s.bx with
 | none=>rw[hg]at hf;cases hf
 | some a=>
  cases hg':getK b' s.bx with
  | none=>rw[hg']at hf';cases hf'
  | some a'=>
   rw[hg]at hf
   rw[hg']at hf'
   have h1:=h.injc a (h.ba _ (getK_mem hg)) a' (h.ba _ (getK_mem hg')) _ (getK_mem hf) _ (getK_mem hf') rfl
   exact⟨h.inja _ (getK_mem hg) _ (getK_mem hg') h1.1,h1.2⟩

end

end Go.Proofs.YtcfociogljhbiaaGreatDoor
