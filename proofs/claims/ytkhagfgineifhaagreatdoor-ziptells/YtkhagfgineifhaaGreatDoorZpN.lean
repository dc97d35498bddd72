import Derived.Test.YtkhagfgineifhaaGreatDoorZpM
import Derived.Lib.Split
import Derived.Lib.SlTrimSet
namespace Go.Proofs.YtkhagfgineifhaaGreatDoor
def zQ(c:Nat):Bool:=decide (97<=c/\c<=122) || decide (48<=c/\c<=57) || c==46 || c==95 || c==45
def Rc(p:List Nat):Bool:=!(p==[]) && !(p==[46]) && !(p==[46,46])
def wP(p:List Nat):Bool:=Rc p && p.all zQ
def k7:List Nat->List (List Nat)
 | []=>[[]]
 | c::r=>if c=47 then []::k7 r else match k7 r with
  | []=>[[c]]
  | p::ps=>(c::p)::ps
theorem J2(l:List Nat):∃p ps,k7 l=p::ps:=by
 cases l with
 | nil=>exact⟨_,_,rfl⟩
 | cons c r=>
  unfold k7;split
  ·exact⟨_,_,rfl⟩
  ·split
   ·exact⟨_,_,rfl⟩
   ·exact⟨_,_,rfl⟩
theorem sW{c:Nat}{r p:List Nat}{ps:List (List Nat)}(hc:c≠47)(h:k7 r=p::ps):k7 (c::r)=(c::p)::ps:=by rw[k7,if_neg hc,h]
def eZ(l:List Nat):Bool:=decide (l.length<=64) && (k7 l).all wP
def bH(l:List Nat):ByteArray:=⟨(l.map UInt8.ofNat).toArray⟩
def sb(s:ByteArray):List Nat:=s.data.toList.map UInt8.toNat
theorem pT(s:ByteArray):∀b∈sb s,b<256:=by intro b hb;obtain⟨u,_,rfl⟩:=List.mem_map.1 hb;exact u.toNat_lt
theorem zE(l:List Nat)(h:∀b∈l,b<256):sb (bH l)=l:=by
 unfold sb bH;simp only[List.map_map];conv=>rhs;rw[<-List.map_id l]
 refine List.map_congr_left (λb hb=>?_);have:=h b hb;simp only[Function.comp_apply,id_eq,UInt8.toNat_ofNat'];omega
theorem oB(s:ByteArray):bH (sb s)=s:=by
 unfold sb bH;rw[List.map_map];have:(UInt8.ofNat ∘ UInt8.toNat)=id:=by funext u;simp
 rw[this,List.map_id]
theorem JR{a b:List Nat}(ha:∀x∈a,x<256)(hb:∀x∈b,x<256)(h:bH a=bH b):a=b:=by rw[<-zE a ha,<-zE b hb,h]
theorem GA{s t:ByteArray}(h:sb s=sb t):s=t:=by rw[<-oB s,<-oB t,h]
theorem dX(s:ByteArray):(sb s).length=s.size:=by simp[sb]
theorem nz(l:List Nat):(bH l).size=l.length:=by simp[bH,ByteArray.size]
end Go.Proofs.YtkhagfgineifhaaGreatDoor
