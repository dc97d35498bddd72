import Derived.Test.YtkhagfgineifhaaGreatDoorLnWrM
namespace Go.Proofs.YtkhagfgineifhaaGreatDoor
theorem xZ(s:Nat):dF s<=7:=by
 unfold dF;split
 ·omega
 ·split
  ·omega
  ·split<;>omega
def eW(l:List Nat):List (Nat×Nat):=(ba l).map (λs=>(s.1.toNat,s.2.toNat))
def uK(s:Int×Int):Prop:=0<=s.1/\s.1<=18/\0<=s.2/\s.2.toNat<2 ^ dF s.1.toNat
theorem DU(n:Nat):∀s∈fd n,uK s:=by
 induction n using Nat.strongRecOn with
 | ind n ih=>
  intro s hs;by_cases h:11<=n
  ·rw[gT n h]at hs;rcases List.mem_cons.1 hs with rfl | hs
   ·refine⟨by simp,by simp,by simp only;omega,?_⟩;show(((min n 138-11:Nat):Int)).toNat<2 ^ 7;omega
   ·exact ih _ (by omega) s hs
  ·by_cases h3:3<=n
   ·rw[g6 n (by omega) h3]at hs;have:s=(17,((n-3:Nat):Int)):=(by simpa using hs);subst this;refine⟨by simp,by simp,by simp only;omega,?_⟩;show(((n-3:Nat):Int)).toNat<2 ^ 3;omega
   ·rw[gZ n (by omega)]at hs;have:=List.eq_of_mem_replicate hs;subst this;exact⟨by simp,by simp,by simp,by decide⟩
theorem Dk(v n:Nat)(hv:v<=15):∀s∈gP v n,uK s:=by
 induction n using Nat.strongRecOn with
 | ind n ih=>
  intro s hs;by_cases h:3<=n
  ·rw[jo v n h]at hs;rcases List.mem_cons.1 hs with rfl | hs
   ·refine⟨by simp,by simp,by simp only;omega,?_⟩;show(((min n 6-3:Nat):Int)).toNat<2 ^ 2;omega
   ·exact ih _ (by omega) s hs
  ·rw[jx v n (by omega)]at hs;have:=List.eq_of_mem_replicate hs;subst this;refine⟨by simp,by simp only;omega,by simp,?_⟩;show(0:Int).toNat<2 ^ dF _;exact Nat.two_pow_pos _
theorem Kj(v n:Nat)(hv:v<=15):∀s∈eI v n,uK s:=by
 intro s hs;unfold eI at hs;split at hs
 ·exact DU n s hs
 ·rcases List.mem_cons.1 hs with rfl | hs
  ·refine⟨by simp,by simp only;omega,by simp,?_⟩;show(0:Int).toNat<2 ^ dF _;exact Nat.two_pow_pos _
  ·exact Dk v _ hv s hs
theorem qj(l:List Nat)(h15:∀x∈l,x<=15):∀s∈ba l,uK s:=by
 induction hn:l.length using Nat.strongRecOn generalizing l with
 | ind n ih=>
  cases l with
  | nil=>intro s hs;simp[ba]at hs
  | cons v r=>
   intro s hs;rw[gY]at hs;rcases List.mem_append.1 hs with hs | hs
   ·exact Kj v _ (h15 v (by simp)) s hs
   ·exact ih (r.drop (bJ v r)).length (by simp at hn ⊢;omega) _ (λx hx=>h15 x (List.mem_cons_of_mem _ (List.mem_of_mem_drop hx))) rfl s hs
theorem qi(l:List Nat)(h15:∀x∈l,x<=15):(eW l).map (λs=>((s.1:Int),(s.2:Int)))=ba l:=by
 unfold eW;rw[List.map_map];conv=>rhs;rw[<-List.map_id (ba l)]
 refine List.map_congr_left (λs hs=>?_);have h:=qj l h15 s hs;simp only[Function.comp,id];rw[Int.toNat_of_nonneg h.1,Int.toNat_of_nonneg h.2.2.1]
theorem us(l:List Nat):(eW l).length<=l.length:=by unfold eW;rw[List.length_map];exact sK l
end Go.Proofs.YtkhagfgineifhaaGreatDoor
