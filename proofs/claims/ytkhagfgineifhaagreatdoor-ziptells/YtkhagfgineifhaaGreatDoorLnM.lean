import Derived.Test.YtkhagfgineifhaaGreatDoorHNextM
namespace Go.Proofs.YtkhagfgineifhaaGreatDoor
def j8(l:List Nat):Nat:=l.getD (l.length-1) 0
theorem Dv(l:List Nat)(h:0<l.length):j8 l∈l:=by
 have hl:l.length-1<l.length:=by omega
 have e:j8 l=l[l.length-1]:=by simp[j8,List.getD,hl]
 rw[e];exact List.getElem_mem _
def iC(s:Int×Int)(l:List Nat):Option (Nat×Nat):=
 if 0<=s.1/\s.1<=15/\s.2=0 then some (s.1.toNat,1)
 else if s.1=16/\0<=s.2/\s.2<=3/\0<l.length then some (j8 l,s.2.toNat+3)
 else if s.1=17/\0<=s.2/\s.2<=7 then some (0,s.2.toNat+3)
 else if s.1=18/\0<=s.2/\s.2<=127 then some (0,s.2.toNat+11)
 else none
theorem Gn{s:Int×Int}{l:List Nat}{v k:Nat}(h:iC s l=some (v,k))(hl:∀x∈l,x<=15):v<=15/\1<=k/\k<=138:=by
 unfold iC at h;split at h
 ·simp at h;omega
 ·split at h
  ·simp at h;obtain⟨rfl,rfl⟩:=h;rename_i _ h2;refine⟨?_,by omega,by omega⟩;exact hl _ (Dv l h2.2.2.2)
  ·split at h
   ·simp at h;omega
   ·split at h
    ·simp at h;omega
    ·cases h
def ez(l:List Nat)(s:Int×Int)(n:Nat):Option (List Nat):=
 match iC s l with
 | none=>none
 | some (v,k)=>if n<l.length+k then none else some (l++List.replicate k v)
theorem iA{l m:List Nat}{s:Int×Int}{n:Nat}(h:ez l s n=some m)(hl:∀x∈l,x<=15):l.length<m.length/\m.length<=n/\∀x∈m,x<=15:=by
 unfold ez at h;split at h
 ·cases h
 ·rename_i v k hs;have h1:=Gn hs hl;split at h
  ·cases h
  ·simp only[Option.some.injEq]at h;subst h;rw[List.length_append,List.length_replicate];refine⟨by omega,by omega,λx hx=>?_⟩;rcases List.mem_append.1 hx with hx | hx
   ·exact hl x hx
   ·have:=List.eq_of_mem_replicate hx;omega
def ij(n:Nat):List Nat->List (Int×Int)->Option (List Nat)
 | l,[]=>some l
 | l,s::r=>match ez l s n with
  | none=>none
  | some m=>ij n m r
def fd(n:Nat):List (Int×Int):=
 if 11<=n then(18,((min n 138-11:Nat):Int))::fd (n-min n 138)
 else if 3<=n then [(17,((n-3:Nat):Int))]else List.replicate n (0,0)
termination_by n
decreasing_by omega
def gP(v n:Nat):List (Int×Int):=
 if 3<=n then(16,((min n 6-3:Nat):Int))::gP v (n-min n 6)else List.replicate n ((v:Int),0)
termination_by n
decreasing_by omega
def eI(v n:Nat):List (Int×Int):=if v=0 then fd n else((v:Int),0)::gP v (n-1)
def bJ(v:Nat)(l:List Nat):Nat:=(l.takeWhile (λx=>decide (x=v))).length
theorem kP(v:Nat)(l:List Nat):bJ v l<=l.length:=by exact(List.takeWhile_prefix _).length_le
def ba:List Nat->List (Int×Int)
 | []=>[]
 | v::r=>eI v (1+bJ v r)++ba (r.drop (bJ v r))
termination_by l=>l.length
decreasing_by simp;omega
theorem gY(v:Nat)(r:List Nat):ba (v::r)=eI v (1+bJ v r)++ba (r.drop (bJ v r)):=by rw[ba]
def sP(zs:List Int):Except Nat (List (Int×Int)):=
 if zs.length<=316/\∀z∈zs,0<=z/\z<=15 then .ok (ba (zs.map Int.toNat))else .error 1
def dF(sym:Nat):Nat:=if sym=16 then 2 else if sym=17 then 3 else if sym=18 then 7 else 0
def aX(ls:List Nat)(c n:Nat):Nat:=n2 ((ls.drop c).take n)
def dg(ns ls:List Nat)(c:Nat):Except Nat ((Nat×Nat)×Nat):=
 if (aT ns (ls.drop c)).2.2≠0 then .error (aT ns (ls.drop c)).2.2
 else if ls.length<c+(aT ns (ls.drop c)).2.1+dF (aT ns (ls.drop c)).1 then .error 10
 else .ok (((aT ns (ls.drop c)).1,aX ls (c+(aT ns (ls.drop c)).2.1) (dF (aT ns (ls.drop c)).1)),c+(aT ns (ls.drop c)).2.1+dF (aT ns (ls.drop c)).1)
def bC(ns ls:List Nat)(N:Nat):Nat->List Nat->Nat->Except Nat (List Nat×Nat)
 | 0,l,c=>.ok (l,c)
 | f+1,l,c=>
  if N<=l.length then .ok (l,c)
  else match dg ns ls c with
   | .error e=>.error e
   | .ok (s,c')=>match ez l ((s.1:Int),(s.2:Int)) N with
    | none=>.error 41
    | some m=>bC ns ls N f m c'
def ord:List Nat:=[16,17,18,0,8,7,9,6,10,5,11,4,12,3,13,2,14,1,15]
def aM(ls:List Nat)(c:Nat):Nat->List Nat
 | 0=>List.replicate 19 0
 | i+1=>(aM ls c i).set (ord.getD i 0) (aX ls (c+3*i) 3)
theorem dt(ls:List Nat)(c i:Nat):(aM ls c i).length=19:=by
 induction i with
 | zero=>simp[aM]
 | succ i ih=>simp[aM,ih]
theorem bY(ls:List Nat)(h:∀b∈ls,b<2)(c n:Nat):aX ls c n<2 ^ n:=qT ls h c n
theorem nR(ls:List Nat)(h:∀b∈ls,b<2)(c i:Nat):∀x∈aM ls c i,x<=7:=by
 induction i with
 | zero=>intro x hx;have:=List.eq_of_mem_replicate hx;omega
 | succ i ih=>
  intro x hx;rcases List.mem_or_eq_of_mem_set hx with hx | rfl
  ·exact ih x hx
  ·have:=bY ls h (c+3*i) 3;omega
def b8(ls:List Nat)(a:Nat):Except Nat ((List Nat×List Nat)×Nat):=
 if ls.length<a+14 then .error 10
 else if 286<aX ls a 5+257\/30<aX ls (a+5) 5+1 then .error 40
 else if ls.length<a+14+3*(aX ls (a+10) 4+4)then .error 10
 else if bw (aM ls (a+14) (aX ls (a+10) 4+4))≠0 then .error (bw (aM ls (a+14) (aX ls (a+10) 4+4)))
 else match bC (aM ls (a+14) (aX ls (a+10) 4+4)) ls (aX ls a 5+257+(aX ls (a+5) 5+1)) (aX ls a 5+257+(aX ls (a+5) 5+1)) [] (a+14+3*(aX ls (a+10) 4+4)) with
  | .error e=>.error e
  | .ok (l,c)=>.ok ((l.take (aX ls a 5+257),l.drop (aX ls a 5+257)),c-a)
end Go.Proofs.YtkhagfgineifhaaGreatDoor
