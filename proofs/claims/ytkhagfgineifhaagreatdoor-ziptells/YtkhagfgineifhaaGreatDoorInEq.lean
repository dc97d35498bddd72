import Derived.Test.YtkhagfgineifhaaGreatDoorInPe
namespace Go.Proofs.YtkhagfgineifhaaGreatDoor
theorem CI(ls:List Nat)(hb:∀b∈ls,b<2)(c n:Nat):aX ls c n<2 ^ n:=by unfold aX;refine Nat.lt_of_lt_of_le (vR _ (λb nL=>hb b (List.mem_of_mem_drop (List.mem_of_mem_take nL)))) ?_;rw[List.length_take];exact Nat.pow_le_pow_right (by decide) (Nat.min_le_left _ _)
end Go.Proofs.YtkhagfgineifhaaGreatDoor
