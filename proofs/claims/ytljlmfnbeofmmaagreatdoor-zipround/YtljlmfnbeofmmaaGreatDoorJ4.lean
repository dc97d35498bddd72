import Derived.Lib.Split
import Derived.Lib.SlTrimSet
import Derived.Test.YtljlmfnbeofmmaaGreatDoorJ1
namespace Go.Proofs.YtljlmfnbeofmmaaGreatDoor
def AL(c:Nat):Bool:=decide (97<=c/\c<=122) || decide (48<=c/\c<=57) || c==46 || c==95 || c==45
def Rg(p:List Nat):Bool:=!(p==[]) && !(p==[46]) && !(p==[46,46])
def xQ(p:List Nat):Bool:=Rg p && p.all AL
def lF:List Nat->List (List Nat)
 | []=>[[]]
 | c::r=>if c=47 then []::lF r else match lF r with
  | []=>[[c]]
  | p::ps=>(c::p)::ps
theorem JP(l:List Nat):∃p ps,lF l=p::ps:=by
 cases l with
 | nil=>exact⟨_,_,rfl⟩
 | cons c r=>
  unfold lF;split
  ·exact⟨_,_,rfl⟩
  ·split
   ·exact⟨_,_,rfl⟩
   ·exact⟨_,_,rfl⟩
theorem te{c:Nat}{r p:List Nat}{ps:List (List Nat)}(hc:c≠47)(h:lF r=p::ps):lF (c::r)=(c::p)::ps:=by rw[lF,if_neg hc,h]
def fq(l:List Nat):Bool:=decide (l.length<=64) && (lF l).all xQ
def bJ(l:List Nat):ByteArray:=⟨(l.map UInt8.ofNat).toArray⟩
def sb(s:ByteArray):List Nat:=s.data.toList.map UInt8.toNat
theorem mS(s:ByteArray):∀b∈sb s,b<256:=by intro b hb;obtain⟨u,_,rfl⟩:=List.mem_map.1 hb;exact u.toNat_lt
theorem Aq(l:List Nat)(h:∀b∈l,b<256):sb (bJ l)=l:=by
 unfold sb bJ;simp only[List.map_map];conv=>rhs;rw[<-List.map_id l]
 refine List.map_congr_left (λb hb=>?_);have:=h b hb;simp only[Function.comp_apply,id_eq,UInt8.toNat_ofNat'];omega
theorem ig(s:ByteArray):bJ (sb s)=s:=by
 unfold sb bJ;rw[List.map_map];have:(UInt8.ofNat ∘ UInt8.toNat)=id:=by funext u;simp
 rw[this,List.map_id]
theorem J5{a b:List Nat}(ha:∀x∈a,x<256)(hb:∀x∈b,x<256)(h:bJ a=bJ b):a=b:=by rw[<-Aq a ha,<-Aq b hb,h]
theorem zR{s t:ByteArray}(h:sb s=sb t):s=t:=by rw[<-ig s,<-ig t,h]
theorem dm(s:ByteArray):(sb s).length=s.size:=by simp[sb]
theorem qD(l:List Nat):(bJ l).size=l.length:=by simp[bJ,ByteArray.size]
structure It where
 lab:Mk
 bytes:List Nat
def dy(m:Mk)(ahead:List (List Nat)):Nat:=
 if fq m.name=false\/m.name∈ahead then 80
 else if m.way≠0/\m.way≠8 then 82
 else if 8192<m.size\/16384<m.packed then 87
 else if m.way≠8/\m.packed≠m.size then 81
 else 0
def cT(l:List It):List (List Nat):=l.map (·.lab.name)
def fW(first:Nat):Nat->List Nat->List Nat->List It->Except Nat (List It)
 | 0,P,R,l=>if P.length=0/\R.length=0 then .ok l else .error 81
 | n+1,P,R,l=>match iB R with
  | none=>.error 81
  | some x=>if dy x.1.1 (cT l)≠0 then .error (dy x.1.1 (cT l))else if x.1.2≠first-P.length then .error 81
   else match kD x.1.1 P with
    | none=>.error 81
    | some y=>fW first n y.2 x.2 (l++[⟨x.1.1,y.1⟩])
def nm(r:List Nat):Option (Nat×Nat×Nat):=
 dB (eY 4 101010256 r) λr=>dB (eY 2 0 r) λr=>dB (eY 2 0 r) λr=>dB (ec 2 r) λn=>dB (eY 2 n.1 n.2) λr=>
 dB (ec 4 r) λlong=>dB (ec 4 long.2) λfrom'=>dB (eY 2 0 from'.2) λ_=>some (n.1,long.1,from'.1)
def j0(r:List Nat)(place:Nat):Except Nat (Nat×Nat):=match nm r with
 | none=>.error 81
 | some x=>if x.2.2+x.2.1≠place then .error 81 else if 64<x.1 then .error 86 else .ok (x.1,x.2.2)
def g6(b:List Nat):Except Nat (List It):=
 if 1048576<b.length then .error 2 else if b.length<22 then .error 81
 else match j0 (b.drop (b.length-22)) (b.length-22) with
  | .error e=>.error e
  | .ok x=>fW x.2 x.1 (b.take x.2) ((b.take (b.length-22)).drop x.2) []
def nt(x:It):List Nat:=j7 x.lab++x.bytes
def bO(l:List It):List Nat:=l.flatMap nt
def cM:Nat->List It->List Nat
 | _,[]=>[]
 | at',x::r=>lE x.lab at'++cM (at'+(nt x).length) r
def d8(l:List It):List Nat:=bO l++(cM 0 l++fd l.length (cM 0 l).length (bO l).length)
structure ItOk(x:It):Prop where
 lab:gP x.lab
 len:x.bytes.length=x.lab.packed
 ok:dy x.lab []=0
theorem jc{m:Mk}{a:List (List Nat)}(h:dy m a=0):fq m.name=true/\m.name∉a/\(m.way=0\/m.way=8)/\m.size<=8192/\m.packed<=16384/\(m.way=8\/m.packed=m.size):=by
 unfold dy at h;split at h
 ·cases h
 ·rename_i h1;split at h
  ·cases h
  ·rename_i h2;split at h
   ·cases h
   ·rename_i h3;split at h
    ·cases h
    ·rename_i h4;refine⟨?_,λh9=>h1 (.inr h9),by omega,by omega,by omega,by omega⟩;cases hn:fq m.name with
     | true=>rfl
     | false=>exact absurd (.inl hn) h1
theorem BP{m:Mk}{a:List (List Nat)}(h1:fq m.name=true)(h2:m.name∉a)(h3:m.way=0\/m.way=8)(h4:m.size<=8192)(h5:m.packed<=16384)(h6:m.way=8\/m.packed=m.size):dy m a=0:=by unfold dy;rw[if_neg (by rw[h1];simp[h2]),if_neg (by omega),if_neg (by omega),if_neg (by omega)]
theorem ItOk.chk{x:It}(h:ItOk x){a:List (List Nat)}(hn:x.lab.name∉a):dy x.lab a=0:=by obtain⟨h1,_,h3,h4,h5,h6⟩:=jc h.ok;exact BP h1 hn h3 h4 h5 h6
theorem t7(at':Nat)(l:List It):(cM at' l).length=(l.map (λx=>46+x.lab.name.length)).sum:=by
 induction l generalizing at' with
 | nil=>rfl
 | cons x r ih=>rw[cM,List.length_append,ih,xy];simp
theorem oT(x:It):(nt x).length=30+x.lab.name.length+x.bytes.length:=by rw[nt,List.length_append,vj]
theorem hQ(x:It)(r:List It):bO (x::r)=nt x++bO r:=by simp[bO]
theorem Dl(first at':Nat)(l uW:List It)(ho:∀x∈l,ItOk x)(hd:(cT uW++cT l).Nodup)(hf:at'+(bO l).length=first)(Tt:first<4294967296):fW first l.length (bO l) (cM at' l) uW=.ok (uW++l):=by
 induction l generalizing at' uW with
 | nil=>simp[fW,bO,cM]
 | cons x r ih=>
  have hx:=ho x (by simp);rw[hQ,List.length_append]at hf;rw[List.length_cons,fW,cM,GA x.lab hx.lab at' (by omega)];simp only;have hn:x.lab.name∉cT uW:=(by intro h9;rw[List.nodup_append]at hd;exact hd.2.2 _ h9 _ (by simp[cT]) rfl);rw[hx.chk hn,if_neg (by simp),if_neg (by rw[hQ,List.length_append];omega),hQ];obtain⟨k,hk⟩:∃k,k=(nt x).length:=⟨_,rfl⟩
  rw[<-hk];unfold nt;rw[List.append_assoc,GJ x.lab hx.lab x.bytes (bO r) hx.len];simp only;have:=ih (at'+k) (uW++[⟨x.lab,x.bytes⟩]) (λy hy=>ho y (by simp[hy])) (by
   simp only[cT,List.map_append,List.map_cons,List.map_nil,List.append_assoc]at hd ⊢;simpa using hd) (by omega)
  rw[this];simp
theorem Gs(n l f:Nat)(hn:n<65536)(hl:l<4294967296)(hf:f<4294967296):nm (fd n l f)=some (n,l,f):=by unfold nm fd;rw[aB (eJ 101010256 4 _ (by decide)),aB (eJ 0 2 _ (by decide)),aB (eJ 0 2 _ (by decide)),aB (fF n 2 _ hn)];simp only;rw[aB (eJ n 2 _ hn),aB (fF l 4 _ hl)];simp only;rw[aB (fF f 4 _ hf)];simp only;have:=eJ 0 2 [] (by decide);rw[List.append_nil]at this;rw[aB this]
theorem oZ(l:List It):(d8 l).length=(bO l).length+(cM 0 l).length+22:=by simp[d8,x9];omega
theorem Ec(l:List It)(ho:∀x∈l,ItOk x)(hd:(cT l).Nodup)(Ew:l.length<=64)(ag:(d8 l).length<=1048576):g6 (d8 l)=.ok l:=by
 have Il:=oZ l;unfold g6;rw[if_neg (by omega),if_neg (by omega)];have e1:(d8 l).length-22=(bO l++cM 0 l).length:=by rw[List.length_append];omega
 have e2:d8 l=(bO l++cM 0 l)++fd l.length (cM 0 l).length (bO l).length:=by simp[d8]
 rw[e1];conv=>lhs;rw[e2]
 rw[List.drop_left,List.take_left];unfold j0;rw[Gs _ _ _ (by omega) (by omega) (by omega)];simp only;rw[List.length_append,if_neg (by omega),if_neg (by omega)];simp only;rw[List.append_assoc,List.take_left,List.drop_left];have:=Dl (bO l).length 0 l [] ho (by simpa[cT]using hd) (by omega) (by omega);simpa using this
end Go.Proofs.YtljlmfnbeofmmaaGreatDoor
