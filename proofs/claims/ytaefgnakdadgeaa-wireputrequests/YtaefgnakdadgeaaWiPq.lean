/-
  Layer 19: a request has just the bytes of the document, or is refused.
-/
import Derived.Test.YtaefgnakdadgeaaWiBg
import Derived.Test.YtaefgnakdadgeaaWjA
namespace Go.Proofs.Ytaefgnakdadgeaa
open Go.RowKit

set_option maxRecDepth 100000 in
set_option maxHeartbeats 1000000 in
theorem wirePutRequests_all (q : Rq) (W : World) :
    Calls Try.prog 3 #[.agg (rqV q)] W fun e W' => e = .returned (.bool true) ∧ Below W.heap.size W W' := by
  obtain ⟨W1, hW1⟩ : ∃ X, X = W.alloc (.cells #[.int .i64 q.k, .int .i64 q.x, .string q.a, .string q.e, .string q.d, .int .i64 q.f, .int .i64 q.m, .string q.o] 24) := ⟨_, rfl⟩
  obtain ⟨p, hp⟩ : ∃ b, b = W.heap.size := ⟨_, rfl⟩
  have HK := hid (show Same W W1 by rw [hW1]; exact (Kept.refl _ W).alloc _)
  have HO : Hid (Ob W1 p 24 q.cs) := hid (by rw [hW1, hp]; exact obQ W q)
  have HBG := big19 W1 q
  obtain ⟨c0, c1, c2, c3, c4, c5, c6, c7⟩ := HO.out.eight
  unfold rqV
  go_enter Try.func3, Try.ntmps3
  go_upto_region 1 with fail
  rw [← hp, ← hW1]
  clear hW1 hp
  go_wp2_with fail
  refine HBG.mono ?_
  rintro e w3 ⟨⟨b, rfl⟩, hk3⟩
  have HK3 := hid hk3
  clear hk3 HBG c0 c1 c2 c3 c4 c5 c6 c7
  cases b with
  | true =>
    go_wp2_with fail
    go_ret
    exact ⟨rfl, below19 (Same.trans HK.out HK3.out)⟩
  | false =>
  have HP := putreq_any w3 q
  obtain ⟨c0, c1, c2, c3, c4, c5, c6, c7⟩ := (HO.out.kept HK3.out (fun f => f)).eight
  obtain ⟨E, hE⟩ : ∃ E, E = perr q := ⟨_, rfl⟩
  obtain ⟨bs, hbs⟩ : ∃ b, b = pqB q := ⟨_, rfl⟩
  have HBS : Hid (bs.length ≤ 100001) := hid (by rw [hbs]; exact (pqB_ok q).2)
  have HRQ : Hid (∀ w, Calls Try.prog 11 #[.agg (rqV q)] w fun e w' => PutA w w' E bs e) := hid (fun w => by rw [hE, hbs]; exact rputreq19 w q)
  rw [← hE, ← hbs] at HP
  unfold rqV at HP
  clear hE hbs
  go_wp2_with fail
  refine HP.mono ?_
  rintro e w4 ⟨v4, rfl, hf4⟩
  have HF4 := hid hf4
  have HK4 := hid (Same.trans HK3.out hf4.kept)
  have HR := HRQ.out w4
  unfold rqV at HR
  clear hf4 HP c0 c1 c2 c3 c4 c5 c6 c7
  obtain ⟨c0, c1, c2, c3, c4, c5, c6, c7⟩ := (HO.out.kept HK4.out (fun f => f)).eight
  go_wp2_with fail
  refine HR.mono ?_
  rintro e w5 ⟨v5, rfl, hf5⟩
  have HF5 := hid hf5
  have HK5 := hid (Same.trans HK4.out hf5.kept)
  have HR4 := hid (Src.kept (Src.ofRow HF4.out.row) hf5.kept (fun _ _ _ f => f))
  clear hf5 HR c0 c1 c2 c3 c4 c5 c6 c7
  go_wp2_with fail
  refine (awake19 w5).mono ?_
  rintro e w6 ⟨rfl, hk6⟩
  have HK6 := hid (Same.trans HK5.out hk6)
  have HBY := bytes19 w6 v4 v5 _ _ bs bs (Src.kept HR4.out hk6 (fun _ _ _ f => f)) (Src.kept (Src.ofRow HF5.out.row) hk6 (fun _ _ _ f => f)) (by have := HBS.out; omega) (by have := HBS.out; omega)
  rw [decide_eq_true rfl] at HBY
  clear hk6
  go_wp2_with fail
  refine HBY.mono ?_
  rintro e w7 ⟨rfl, hk7⟩
  have HK7 := hid (Same.trans HK.out (Same.trans HK6.out hk7))
  clear hk7 HBY
  go_wp2_with fail
  go_ret
  exact ⟨rfl, below19 HK7.out⟩

end Go.Proofs.Ytaefgnakdadgeaa
