import Derived.Test.YtkhagfgineifhaaGreatDoorLnWr
namespace Go.Proofs.YtkhagfgineifhaaGreatDoor
open Go.RowKit
theorem GF(l:List Nat)(h:l≠[]):ba l≠[]:=by
 cases l with
 | nil=>exact absurd rfl h
 | cons v r=>
  rw[gY];intro e;exact BJ v (1+bJ v r) (by omega) (List.append_eq_nil_iff.1 e).1
theorem KA(xs ys:List Nat)(hx:∀n∈xs,n≤15)(hy:∀n∈ys,n≤15)(h1:257≤xs.length)(h2:xs.length≤286)(h3:1≤ys.length)(h4:ys.length≤30):
  l6 xs ys (dL (cZ (ba (xs++ys))) 19) (cZ (ba (xs++ys))) (eW (xs++ys)):=by
 have h15:∀n∈xs++ys,n<=15:=λn hn=>by
  rcases List.mem_append.1 hn with h | h
  ·exact hx n h
  ·exact hy n h
 have ag:(xs++ys).length<=316:=by rw[List.length_append];omega
 have bm:xs++ys≠[]:=λe=>by have:=congrArg List.length e;rw[List.length_append,List.length_nil]at this;omega
 have LK:=qj (xs++ys) h15;have hc:=Fr (cZ (ba (xs++ys))) 19 (by decide);obtain⟨s0,CB⟩:=List.exists_mem_of_ne_nil _ (GF _ bm);refine⟨h1,h2,h3,h4,hc.1,hc.2,iK _,C9 _,DS _ s0 CB (by have:=LK s0 CB;have:=this.1;have:=(LK s0 CB).2.1;omega),λj hj Cw=>zN _ 19 j hj Cw,?_,?_⟩
 ·intro s hs;obtain⟨t,ht,rfl⟩:=List.mem_map.1 hs;have hi:=LK t ht;have hlt:t.1.toNat<19:=(by have:=hi.1;have:=hi.2.1;omega);exact⟨by rw[iK];exact hlt,AF _ t ht hlt,hi.2.2.2⟩
 ·rw[qi _ h15,DN _ _ [] h15 (by simp)];simp
theorem lK(xs ys:List Int):cG (xs++ys)=(cG xs && cG ys):=by unfold cG;rw[List.any_append,Bool.not_or]
end Go.Proofs.YtkhagfgineifhaaGreatDoor
