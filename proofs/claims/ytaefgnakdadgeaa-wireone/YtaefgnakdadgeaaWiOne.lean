/-
  Layer 19: what is got is put as the same bytes.
-/
import Derived.Test.YtaefgnakdadgeaaWiLw
namespace Go.Proofs.Ytaefgnakdadgeaa
open Go.RowKit

set_option maxRecDepth 100000 in
set_option maxHeartbeats 1000000 in
theorem wireOne_all (a : Option Addr) (n cap : Nat) (zs : List Int) (W : World) (hz : IsRow .u8 W a n cap zs) :
    Calls Try.prog 8 #[.slice a n cap] W fun e W' => e = .returned (.bool true) ∧ Below W.heap.size W W' := by
  obtain ⟨bs, hb⟩ := hz.bs19
  clear hz
  by_cases hlong : 1048576 < n
  · have d1 : decide ((1048576 : Int) < (n : Int)) = true := by simp; omega
    have d2 : decide (1048576 < n) = true := by simp; omega
    clear hb hlong
    go_enter Try.func8, Try.ntmps8
    go_wp2_with fail
    go_ret
    exact ⟨rfl, Below.refl _ _⟩
  · have d1 : decide ((1048576 : Int) < (n : Int)) = false := by simp; omega
    have d2 : decide (1048576 < n) = false := by simp; omega
    have hi := hb.in19 (by omega)
    have HI := hid hi
    have HG := getreq_any W a n cap bs hi
    clear hb hlong hi
    have HBT : Hid (∀ b ∈ bs, b < 256) := hid HI.out.byte
    have HLN : Hid (n = bs.length ∧ bs.length ≤ 2000000) := hid ⟨HI.out.n, HI.out.len⟩
    have hor : (∃ q, gotQ bs = some q) ∨ gotQ bs = none := by cases h : gotQ bs with | none => exact .inr rfl | some q => exact .inl ⟨q, rfl⟩
    rcases hor with ⟨q, hq⟩ | hq
    case' inr =>
      have hne : gqE bs ≠ 0 := fun h => by obtain ⟨q, h9⟩ := gqE_zero h; rw [hq] at h9; cases h9
      obtain ⟨E, hE⟩ : ∃ E, E = gqE bs := ⟨_, rfl⟩
      obtain ⟨q, hqv⟩ : ∃ q, q = gqV bs := ⟨_, rfl⟩
      rw [← hE] at hne
      rw [← hE, ← hqv] at HG
      have b1 : ((E : Int) == 0) = false := by simp; omega
      have b2 : (E == 0) = false := by simp; omega
      have b3 : decide (E = 0) = false := by simp; omega
      clear hne hE hqv hq
      unfold rqV at HG
      go_enter Try.func8, Try.ntmps8
      go_wp2_with fail
      refine HG.mono ?_
      rintro e w1 ⟨rfl, hk1⟩
      have HK1 := hid hk1
      clear hk1 HG
      obtain ⟨wx, hwx⟩ : ∃ X, X = w1.alloc (.cells #[.int .i64 q.k, .int .i64 q.x, .string q.a, .string q.e, .string q.d, .int .i64 q.f, .int .i64 q.m, .string q.o] 24) := ⟨_, rfl⟩
      have HKX : Hid (Same W wx) := hid (by rw [hwx]; exact HK1.out.alloc _)
      go_wp2_with fail
      rw [← hwx]
      clear hwx b1 b2 b3 HK1
    case' inl =>
      obtain ⟨hp1, hp2⟩ := gotQ_join hq HBT.out
      rw [(gqE_some hq).1, (gqE_some hq).2] at HG
      clear hq
      unfold rqV at HG
      go_enter Try.func8, Try.ntmps8
      go_wp2_with fail
      refine HG.mono ?_
      rintro e w1 ⟨rfl, hk1⟩
      obtain ⟨W2, hW2⟩ : ∃ X, X = w1.alloc (.cells #[.int .i64 q.k, .int .i64 q.x, .string q.a, .string q.e, .string q.d, .int .i64 q.f, .int .i64 q.m, .string q.o] 24) := ⟨_, rfl⟩
      have HK2 : Hid (Same W W2) := hid (by rw [hW2]; exact hk1.alloc _)
      have HP := putreq_any W2 q
      have hpq : pqB q = bs := by unfold pqB; rw [if_pos hp1, hp2]
      rw [hp1, hpq] at HP
      clear hk1 HG hp1 hp2 hpq
      go_wp2_with fail
      rw [← hW2]
      clear hW2
      refine HP.mono ?_
      rintro e w3 ⟨v3, rfl, hf3⟩
      have HK3 := hid (Same.trans HK2.out hf3.kept)
      have HBY := bytes19 w3 v3 (.slice a n cap) _ _ bs bs (Src.ofRow hf3.row) (HI.out.src.kept HK3.out (fun _ _ _ f => f)) (by have := HLN.out; omega) (by have := HLN.out; omega)
      rw [decide_eq_true rfl] at HBY
      clear hf3 HP HK2
      go_wp2_with fail
      refine HBY.mono ?_
      rintro e wx ⟨rfl, hk4⟩
      have HKX : Hid (Same W wx) := hid (Same.trans HK3.out hk4)
      clear hk4 HBY HK3
      go_wp2_with fail
    all_goals
      have HR := getres_any wx a n cap bs (HI.out.kept HKX.out)
      unfold GrA at HR
      have hor : (∃ s L, gotR bs = some (s, L)) ∨ gotR bs = none := by cases h : gotR bs with | none => exact .inr rfl | some q => exact .inl ⟨q.1, q.2, rfl⟩
      rcases hor with ⟨s, L, hr⟩ | hr
      case' inr =>
        rw [(grE_none hr).1, (grE_none hr).2.1, (grE_none hr).2.2] at HR
        clear hr
        unfold zeroR rsV at HR
        refine HR.mono ?_
        rintro e w5 ⟨ao, rn, rc, rfl, _, hk5⟩
        obtain ⟨wy, hwy⟩ : ∃ X, X = w5.alloc (.cells #[.int .i64 0, .int .i64 0, .int .i64 0, .int .i64 0, .string ⟨#[]⟩, .slice ao rn rc, .int .i64 0, .int .i64 0] 40) := ⟨_, rfl⟩
        have HKY : Hid (Same W wy) := hid (by rw [hwy]; exact (Same.trans HKX.out hk5).alloc _)
        clear hk5 HR
        go_wp2_with fail
        rw [← hwy]
        clear hwy
      case' inl =>
        obtain ⟨hp1, hp2⟩ := gotR_join hr HBT.out
        obtain ⟨_, _, _, htl, hl2⟩ := rerr_zero hp1
        have hLL := (tooL_false htl).1
        rw [(grE_some hr).1, (grE_some hr).2.1, (grE_some hr).2.2] at HR
        clear hr htl hl2
        unfold rsV at HR
        refine HR.mono ?_
        rintro e w5 ⟨ao, rn, rc, rfl, hrow, hk5⟩
        obtain ⟨W6, hW6⟩ : ∃ X, X = w5.alloc (.cells #[.int .i64 s.c, .int .i64 s.x, .int .i64 s.a, .int .i64 s.z, .string s.d, .slice ao rn rc, .int .i64 s.b, .int .i64 s.e] 40) := ⟨_, rfl⟩
        have hk56 : Same w5 W6 := by rw [hW6]; exact (Kept.refl _ _).alloc _
        have HK6 : Hid (Same W W6) := hid (Same.trans HKX.out (Same.trans hk5 hk56))
        have hrow6 := hrow.kept hk56 (fun _ _ f => f)
        have HP := putres_any W6 s ao rn rc L ((SrcC.ofRow nsE_ok hrow6).mono (fun j hj => hrow6.lt hj)) (by omega)
        have hpr : prB s L = bs := by unfold prB; rw [if_pos hp1, hp2]
        rw [hp1, hpr] at HP
        clear hk5 HR hp1 hp2 hpr hrow hrow6 hk56 hLL
        go_wp2_with fail
        rw [← hW6]
        clear hW6
        refine HP.mono ?_
        rintro e w7 ⟨v7, rfl, hf7⟩
        have HK7 := hid (Same.trans HK6.out hf7.kept)
        have HBY := bytes19 w7 v7 (.slice a n cap) _ _ bs bs (Src.ofRow hf7.row) (HI.out.src.kept HK7.out (fun _ _ _ f => f)) (by have := HLN.out; omega) (by have := HLN.out; omega)
        rw [decide_eq_true rfl] at HBY
        clear hf7 HP HK6
        go_wp2_with fail
        refine HBY.mono ?_
        rintro e wy ⟨rfl, hk8⟩
        have HKY : Hid (Same W wy) := hid (Same.trans HK7.out hk8)
        clear hk8 HBY HK7
        go_wp2_with fail
      all_goals
        refine (awake19 wy).mono ?_
        rintro e w9 ⟨rfl, hk9⟩
        have HK9 := hid (Same.trans HKY.out hk9)
        clear hk9
        go_wp2_with fail
        go_ret
        exact ⟨rfl, below19 HK9.out⟩

end Go.Proofs.Ytaefgnakdadgeaa
