import Derived.Lib.Split
import Derived.Lib.SlTrimSet
import Derived.Test.YtllcnlnbpikhdaaGreatDoorJ1
namespace Go.Proofs.YtllcnlnbpikhdaaGreatDoor
def yB(c:Nat):Bool:=decide (97<=c/\c<=122) || decide (48<=c/\c<=57) || c==46 || c==95 || c==45
def Qo(p:List Nat):Bool:=!(p==[]) && !(p==[46]) && !(p==[46,46])
def vx(p:List Nat):Bool:=Qo p && p.all yB
def kP:List Nat->List (List Nat)
 | []=>[[]]
 | c::r=>if c=47 then []::kP r else match kP r with
  | []=>[[c]]
  | p::ps=>(c::p)::ps
theorem JA(l:List Nat):∃p ps,kP l=p::ps:=by
 cases l with
 | nil=>exact⟨_,_,rfl⟩
 | cons c r=>
  unfold kP;split
  ·exact⟨_,_,rfl⟩
  ·split
   ·exact⟨_,_,rfl⟩
   ·exact⟨_,_,rfl⟩
theorem sd{c:Nat}{r p:List Nat}{ps:List (List Nat)}(hc:c≠47)(h:kP r=p::ps):kP (c::r)=(c::p)::ps:=by rw[kP,if_neg hc,h]
def fa(l:List Nat):Bool:=decide (l.length<=64) && (kP l).all vx
def bF(l:List Nat):ByteArray:=⟨(l.map UInt8.ofNat).toArray⟩
def sb(s:ByteArray):List Nat:=s.data.toList.map UInt8.toNat
theorem rT(s:ByteArray):∀b∈sb s,b<256:=by intro b hb;obtain⟨u,_,rfl⟩:=List.mem_map.1 hb;exact u.toNat_lt
theorem qe(l:List Nat)(h:∀b∈l,b<256):sb (bF l)=l:=by
 unfold sb bF;simp only[List.map_map];conv=>rhs;rw[<-List.map_id l]
 refine List.map_congr_left (λb hb=>?_);have:=h b hb;simp only[Function.comp_apply,id_eq,UInt8.toNat_ofNat'];omega
theorem jW(s:ByteArray):bF (sb s)=s:=by
 unfold sb bF;rw[List.map_map];have:(UInt8.ofNat ∘ UInt8.toNat)=id:=by funext u;simp
 rw[this,List.map_id]
theorem AJ{a b:List Nat}(ha:∀x∈a,x<256)(hb:∀x∈b,x<256)(h:bF a=bF b):a=b:=by rw[<-qe a ha,<-qe b hb,h]
theorem Lb{s t:ByteArray}(h:sb s=sb t):s=t:=by rw[<-jW s,<-jW t,h]
theorem dU(s:ByteArray):(sb s).length=s.size:=by simp[sb]
theorem iJ(l:List Nat):(bF l).size=l.length:=by simp[bF,ByteArray.size]
structure It where
 lab:Mk
 bytes:List Nat
def de(m:Mk)(ahead:List (List Nat)):Nat:=
 if fa m.name=false\/m.name∈ahead then 80
 else if m.way≠0/\m.way≠8 then 82
 else if 8192<m.size\/16384<m.packed then 87
 else if m.way≠8/\m.packed≠m.size then 81
 else 0
def be(l:List It):List (List Nat):=l.map (·.lab.name)
def dW(first:Nat):Nat->List Nat->List Nat->List It->Except Nat (List It)
 | 0,P,R,l=>if P.length=0/\R.length=0 then .ok l else .error 81
 | n+1,P,R,l=>match eU R with
  | none=>.error 81
  | some x=>if de x.1.1 (be l)≠0 then .error (de x.1.1 (be l))else if x.1.2≠first-P.length then .error 81
   else match iC x.1.1 P with
    | none=>.error 81
    | some y=>dW first n y.2 x.2 (l++[⟨x.1.1,y.1⟩])
def nG(r:List Nat):Option (Nat×Nat×Nat):=
 da (eM 4 101010256 r) λr=>da (eM 2 0 r) λr=>da (eM 2 0 r) λr=>da (dS 2 r) λn=>da (eM 2 n.1 n.2) λr=>
 da (dS 4 r) λlong=>da (dS 4 long.2) λfrom'=>da (eM 2 0 from'.2) λ_=>some (n.1,long.1,from'.1)
def iy(r:List Nat)(place:Nat):Except Nat (Nat×Nat):=match nG r with
 | none=>.error 81
 | some x=>if x.2.2+x.2.1≠place then .error 81 else if 64<x.1 then .error 86 else .ok (x.1,x.2.2)
def fU(b:List Nat):Except Nat (List It):=
 if 1048576<b.length then .error 2 else if b.length<22 then .error 81
 else match iy (b.drop (b.length-22)) (b.length-22) with
  | .error e=>.error e
  | .ok x=>dW x.2 x.1 (b.take x.2) ((b.take (b.length-22)).drop x.2) []
def mB(x:It):List Nat:=jC x.lab++x.bytes
def bK(l:List It):List Nat:=l.flatMap mB
def cG:Nat->List It->List Nat
 | _,[]=>[]
 | at',x::r=>kO x.lab at'++cG (at'+(mB x).length) r
def ey(l:List It):List Nat:=bK l++(cG 0 l++lM l.length (cG 0 l).length (bK l).length)
structure ItOk(x:It):Prop where
 lab:gE x.lab
 len:x.bytes.length=x.lab.packed
 ok:de x.lab []=0
theorem fZ{m:Mk}{a:List (List Nat)}(h:de m a=0):fa m.name=true/\m.name∉a/\(m.way=0\/m.way=8)/\m.size<=8192/\m.packed<=16384/\(m.way=8\/m.packed=m.size):=by
 unfold de at h;split at h
 ·cases h
 ·rename_i h1;split at h
  ·cases h
  ·rename_i h2;split at h
   ·cases h
   ·rename_i h3;split at h
    ·cases h
    ·rename_i h4;refine⟨?_,λh9=>h1 (.inr h9),by omega,by omega,by omega,by omega⟩;cases hn:fa m.name with
     | true=>rfl
     | false=>exact absurd (.inl hn) h1
theorem Bn{m:Mk}{a:List (List Nat)}(h1:fa m.name=true)(h2:m.name∉a)(h3:m.way=0\/m.way=8)(h4:m.size<=8192)(h5:m.packed<=16384)(h6:m.way=8\/m.packed=m.size):de m a=0:=by unfold de;rw[if_neg (by rw[h1];simp[h2]),if_neg (by omega),if_neg (by omega),if_neg (by omega)]
theorem ItOk.chk{x:It}(h:ItOk x){a:List (List Nat)}(hn:x.lab.name∉a):de x.lab a=0:=by obtain⟨h1,_,h3,h4,h5,h6⟩:=fZ h.ok;exact Bn h1 hn h3 h4 h5 h6
theorem tH(at':Nat)(l:List It):(cG at' l).length=(l.map (λx=>46+x.lab.name.length)).sum:=by
 induction l generalizing at' with
 | nil=>rfl
 | cons x r ih=>rw[cG,List.length_append,ih,xE];simp
theorem oD(x:It):(mB x).length=30+x.lab.name.length+x.bytes.length:=by rw[mB,List.length_append,vV]
theorem gN(x:It)(r:List It):bK (x::r)=mB x++bK r:=by simp[bK]
theorem DW(first at':Nat)(l uw:List It)(ho:∀x∈l,ItOk x)(hd:(be uw++be l).Nodup)(hf:at'+(bK l).length=first)(Ty:first<4294967296):dW first l.length (bK l) (cG at' l) uw=.ok (uw++l):=by
 induction l generalizing at' uw with
 | nil=>simp[dW,bK,cG]
 | cons x r ih=>
  have hx:=ho x (by simp);rw[gN,List.length_append]at hf;rw[List.length_cons,dW,cG,Gd x.lab hx.lab at' (by omega)];simp only;have hn:x.lab.name∉be uw:=(by intro h9;rw[List.nodup_append]at hd;exact hd.2.2 _ h9 _ (by simp[be]) rfl);rw[hx.chk hn,if_neg (by simp),if_neg (by rw[gN,List.length_append];omega),gN];obtain⟨k,hk⟩:∃k,k=(mB x).length:=⟨_,rfl⟩
  rw[<-hk];unfold mB;rw[List.append_assoc,Gx x.lab hx.lab x.bytes (bK r) hx.len];simp only;have:=ih (at'+k) (uw++[⟨x.lab,x.bytes⟩]) (λy hy=>ho y (by simp[hy])) (by
   simp only[be,List.map_append,List.map_cons,List.map_nil,List.append_assoc]at hd ⊢;simpa using hd) (by omega)
  rw[this];simp
theorem Gq(n l f:Nat)(hn:n<65536)(hl:l<4294967296)(hf:f<4294967296):nG (lM n l f)=some (n,l,f):=by unfold nG lM;rw[aB (eo 101010256 4 _ (by decide)),aB (eo 0 2 _ (by decide)),aB (eo 0 2 _ (by decide)),aB (fo n 2 _ hn)];simp only;rw[aB (eo n 2 _ hn),aB (fo l 4 _ hl)];simp only;rw[aB (fo f 4 _ hf)];simp only;have:=eo 0 2 [] (by decide);rw[List.append_nil]at this;rw[aB this]
theorem ox(l:List It):(ey l).length=(bK l).length+(cG 0 l).length+22:=by simp[ey,wZ];omega
theorem DB(l:List It)(ho:∀x∈l,ItOk x)(hd:(be l).Nodup)(h64:l.length<=64)(ag:(ey l).length<=1048576):fU (ey l)=.ok l:=by
 have G0:=ox l;unfold fU;rw[if_neg (by omega),if_neg (by omega)];have e1:(ey l).length-22=(bK l++cG 0 l).length:=by rw[List.length_append];omega
 have e2:ey l=(bK l++cG 0 l)++lM l.length (cG 0 l).length (bK l).length:=by simp[ey]
 rw[e1];conv=>lhs;rw[e2]
 rw[List.drop_left,List.take_left];unfold iy;rw[Gq _ _ _ (by omega) (by omega) (by omega)];simp only;rw[List.length_append,if_neg (by omega),if_neg (by omega)];simp only;rw[List.append_assoc,List.take_left,List.drop_left];have:=DW (bK l).length 0 l [] ho (by simpa[be]using hd) (by omega) (by omega);simpa using this
end Go.Proofs.YtllcnlnbpikhdaaGreatDoor
