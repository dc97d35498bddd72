import Derived.Lib.Split
import Derived.Lib.SlTrimSet
import Derived.Test.YtkhagfgineifhaaGreatDoorJ1
namespace Go.Proofs.YtkhagfgineifhaaGreatDoor
def zQ(c:Nat):Bool:=decide (97<=c/\c<=122) || decide (48<=c/\c<=57) || c==46 || c==95 || c==45
def Rc(p:List Nat):Bool:=!(p==[]) && !(p==[46]) && !(p==[46,46])
def wP(p:List Nat):Bool:=Rc p && p.all zQ
def k7:List Nat->List (List Nat)
 | []=>[[]]
 | c::r=>if c=47 then []::k7 r else match k7 r with
  | []=>[[c]]
  | p::ps=>(c::p)::ps
theorem J2(l:List Nat):∃p ps,k7 l=p::ps:=by
 cases l with
 | nil=>exact⟨_,_,rfl⟩
 | cons c r=>
  unfold k7;split
  ·exact⟨_,_,rfl⟩
  ·split
   ·exact⟨_,_,rfl⟩
   ·exact⟨_,_,rfl⟩
theorem sW{c:Nat}{r p:List Nat}{ps:List (List Nat)}(hc:c≠47)(h:k7 r=p::ps):k7 (c::r)=(c::p)::ps:=by rw[k7,if_neg hc,h]
def eZ(l:List Nat):Bool:=decide (l.length<=64) && (k7 l).all wP
def bH(l:List Nat):ByteArray:=⟨(l.map UInt8.ofNat).toArray⟩
def sb(s:ByteArray):List Nat:=s.data.toList.map UInt8.toNat
theorem pT(s:ByteArray):∀b∈sb s,b<256:=by intro b hb;obtain⟨u,_,rfl⟩:=List.mem_map.1 hb;exact u.toNat_lt
theorem zE(l:List Nat)(h:∀b∈l,b<256):sb (bH l)=l:=by
 unfold sb bH;simp only[List.map_map];conv=>rhs;rw[<-List.map_id l]
 refine List.map_congr_left (λb hb=>?_);have:=h b hb;simp only[Function.comp_apply,id_eq,UInt8.toNat_ofNat'];omega
theorem oB(s:ByteArray):bH (sb s)=s:=by
 unfold sb bH;rw[List.map_map];have:(UInt8.ofNat ∘ UInt8.toNat)=id:=by funext u;simp
 rw[this,List.map_id]
theorem JR{a b:List Nat}(ha:∀x∈a,x<256)(hb:∀x∈b,x<256)(h:bH a=bH b):a=b:=by rw[<-zE a ha,<-zE b hb,h]
theorem GA{s t:ByteArray}(h:sb s=sb t):s=t:=by rw[<-oB s,<-oB t,h]
theorem dX(s:ByteArray):(sb s).length=s.size:=by simp[sb]
theorem nz(l:List Nat):(bH l).size=l.length:=by simp[bH,ByteArray.size]
structure It where
 lab:Mk
 bytes:List Nat
def dj(m:Mk)(ahead:List (List Nat)):Nat:=
 if eZ m.name=false\/m.name∈ahead then 80
 else if m.way≠0/\m.way≠8 then 82
 else if 8192<m.size\/16384<m.packed then 87
 else if m.way≠8/\m.packed≠m.size then 81
 else 0
def bM(l:List It):List (List Nat):=l.map (·.lab.name)
def fU(first:Nat):Nat->List Nat->List Nat->List It->Except Nat (List It)
 | 0,P,R,l=>if P.length=0/\R.length=0 then .ok l else .error 81
 | n+1,P,R,l=>match ii R with
  | none=>.error 81
  | some x=>if dj x.1.1 (bM l)≠0 then .error (dj x.1.1 (bM l))else if x.1.2≠first-P.length then .error 81
   else match kq x.1.1 P with
    | none=>.error 81
    | some y=>fU first n y.2 x.2 (l++[⟨x.1.1,y.1⟩])
def nF(r:List Nat):Option (Nat×Nat×Nat):=
 dh (eX 4 101010256 r) λr=>dh (eX 2 0 r) λr=>dh (eX 2 0 r) λr=>dh (dY 2 r) λn=>dh (eX 2 n.1 n.2) λr=>
 dh (dY 4 r) λlong=>dh (dY 4 long.2) λfrom'=>dh (eX 2 0 from'.2) λ_=>some (n.1,long.1,from'.1)
def jP(r:List Nat)(place:Nat):Except Nat (Nat×Nat):=match nF r with
 | none=>.error 81
 | some x=>if x.2.2+x.2.1≠place then .error 81 else if 64<x.1 then .error 86 else .ok (x.1,x.2.2)
def fV(b:List Nat):Except Nat (List It):=
 if 1048576<b.length then .error 2 else if b.length<22 then .error 81
 else match jP (b.drop (b.length-22)) (b.length-22) with
  | .error e=>.error e
  | .ok x=>fU x.2 x.1 (b.take x.2) ((b.take (b.length-22)).drop x.2) []
def lk(x:It):List Nat:=ig x.lab++x.bytes
def aN(l:List It):List Nat:=l.flatMap lk
def bz:Nat->List It->List Nat
 | _,[]=>[]
 | at',x::r=>k9 x.lab at'++bz (at'+(lk x).length) r
def bT(l:List It):List Nat:=aN l++(bz 0 l++eO l.length (bz 0 l).length (aN l).length)
structure ItOk(x:It):Prop where
 lab:gN x.lab
 len:x.bytes.length=x.lab.packed
 ok:dj x.lab []=0
theorem iX{m:Mk}{a:List (List Nat)}(h:dj m a=0):eZ m.name=true/\m.name∉a/\(m.way=0\/m.way=8)/\m.size<=8192/\m.packed<=16384/\(m.way=8\/m.packed=m.size):=by
 unfold dj at h;split at h
 ·cases h
 ·rename_i h1;split at h
  ·cases h
  ·rename_i h2;split at h
   ·cases h
   ·rename_i h3;split at h
    ·cases h
    ·rename_i h4;refine⟨?_,λh9=>h1 (.inr h9),by omega,by omega,by omega,by omega⟩;cases hn:eZ m.name with
     | true=>rfl
     | false=>exact absurd (.inl hn) h1
theorem BF{m:Mk}{a:List (List Nat)}(h1:eZ m.name=true)(h2:m.name∉a)(h3:m.way=0\/m.way=8)(h4:m.size<=8192)(h5:m.packed<=16384)(h6:m.way=8\/m.packed=m.size):dj m a=0:=by unfold dj;rw[if_neg (by rw[h1];simp[h2]),if_neg (by omega),if_neg (by omega),if_neg (by omega)]
theorem ItOk.chk{x:It}(h:ItOk x){a:List (List Nat)}(hn:x.lab.name∉a):dj x.lab a=0:=by obtain⟨h1,_,h3,h4,h5,h6⟩:=iX h.ok;exact BF h1 hn h3 h4 h5 h6
theorem ue(at':Nat)(l:List It):(bz at' l).length=(l.map (λx=>46+x.lab.name.length)).sum:=by
 induction l generalizing at' with
 | nil=>rfl
 | cons x r ih=>rw[bz,List.length_append,ih,yn];simp
theorem fM(x:It):(lk x).length=30+x.lab.name.length+x.bytes.length:=by rw[lk,List.length_append,oU]
theorem da(x:It)(r:List It):aN (x::r)=lk x++aN r:=by simp[aN]
theorem DX(first at':Nat)(l vh:List It)(ho:∀x∈l,ItOk x)(hd:(bM vh++bM l).Nodup)(hf:at'+(aN l).length=first)(QH:first<4294967296):fU first l.length (aN l) (bz at' l) vh=.ok (vh++l):=by
 induction l generalizing at' vh with
 | nil=>simp[fU,aN,bz]
 | cons x r ih=>
  have hx:=ho x (by simp);rw[da,List.length_append]at hf;rw[List.length_cons,fU,bz,FK x.lab hx.lab at' (by omega)];simp only;have hn:x.lab.name∉bM vh:=(by intro h9;rw[List.nodup_append]at hd;exact hd.2.2 _ h9 _ (by simp[bM]) rfl);rw[hx.chk hn,if_neg (by simp),if_neg (by rw[da,List.length_append];omega),da];obtain⟨k,hk⟩:∃k,k=(lk x).length:=⟨_,rfl⟩
  rw[<-hk];unfold lk;rw[List.append_assoc,FZ x.lab hx.lab x.bytes (aN r) hx.len];simp only;have:=ih (at'+k) (vh++[⟨x.lab,x.bytes⟩]) (λy hy=>ho y (by simp[hy])) (by
   simp only[bM,List.map_append,List.map_cons,List.map_nil,List.append_assoc]at hd ⊢;simpa using hd) (by omega)
  rw[this];simp
theorem F9(n l f:Nat)(hn:n<65536)(hl:l<4294967296)(hf:f<4294967296):nF (eO n l f)=some (n,l,f):=by unfold nF eO;rw[aA (eB 101010256 4 _ (by decide)),aA (eB 0 2 _ (by decide)),aA (eB 0 2 _ (by decide)),aA (fC n 2 _ hn)];simp only;rw[aA (eB n 2 _ hn),aA (fC l 4 _ hl)];simp only;rw[aA (fC f 4 _ hf)];simp only;have:=eB 0 2 [] (by decide);rw[List.append_nil]at this;rw[aA this]
theorem oV(l:List It):(bT l).length=(aN l).length+(bz 0 l).length+22:=by simp[bT,vG];omega
theorem sF(l:List It)(ho:∀x∈l,ItOk x)(hd:(bM l).Nodup)(ET:l.length<=64)(ag:(bT l).length<=1048576):fV (bT l)=.ok l:=by
 have CA:=oV l;unfold fV;rw[if_neg (by omega),if_neg (by omega)];have e1:(bT l).length-22=(aN l++bz 0 l).length:=by rw[List.length_append];omega
 have e2:bT l=(aN l++bz 0 l)++eO l.length (bz 0 l).length (aN l).length:=by simp[bT]
 rw[e1];conv=>lhs;rw[e2]
 rw[List.drop_left,List.take_left];unfold jP;rw[F9 _ _ _ (by omega) (by omega) (by omega)];simp only;rw[List.length_append,if_neg (by omega),if_neg (by omega)];simp only;rw[List.append_assoc,List.take_left,List.drop_left];have:=DX (aN l).length 0 l [] ho (by simpa[bM]using hd) (by omega) (by omega);simpa using this
end Go.Proofs.YtkhagfgineifhaaGreatDoor
