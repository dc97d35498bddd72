/-
  Layer 19, the reference: PutRequest.
-/
import Derived.Test.YtaefgnakdadgeaaRefX
import Derived.Test.YtaefgnakdadgeaaWiLw
namespace Go.Proofs.Ytaefgnakdadgeaa
open Go.RowKit

theorem Blk.seven {w : World} {g : Nat} {a b c d e f x : Value} {t : TypeId} (hb : Blk w g #[a, b, c, d, e, f, x] t) : w.cell? ⟨g, 0, none⟩ = some a ∧ w.cell? ⟨g, 1, none⟩ = some b ∧ w.cell? ⟨g, 2, none⟩ = some c ∧ w.cell? ⟨g, 3, none⟩ = some d ∧ w.cell? ⟨g, 4, none⟩ = some e ∧ w.cell? ⟨g, 5, none⟩ = some f ∧ w.cell? ⟨g, 6, none⟩ = some x :=
  ⟨hb.cell 0, hb.cell 1, hb.cell 2, hb.cell 3, hb.cell 4, hb.cell 5, hb.cell 6⟩

theorem putA_none {w w' : World} {n : Nat} {bs : List Nat} (hb : bs = []) (hk : Same w w') : PutA w w' n bs (.returned (.tuple #[.slice none 0 0, .int .i64 (n : Nat)])) := ⟨_, rfl, by rw [hb]; exact fresh_none hk⟩

theorem pqB_none {q : Rq} {n : Nat} (h : perr q = n) (h0 : n ≠ 0) : pqB q = [] := by
  unfold pqB
  rw [if_neg (by omega)]

theorem isEmpty_dec {α : Type} [DecidableEq α] (l : List α) : l.isEmpty = decide (l = []) := by cases l <;> simp

/-- A request's bytes, field by field. -/
theorem lay_is (q : Rq) : layL q.cs (fdQ q.k) = (if hasQ q.k 1 = true then leOf q.x.toNat 4 else []) ++ ((if hasQ q.k 2 = true then leOf q.a.size 2 ++ sb q.a else []) ++ ((if hasQ q.k 3 = true then leOf q.e.size 2 ++ sb q.e else []) ++ ((if hasQ q.k 4 = true then leOf q.d.size 2 ++ sb q.d else []) ++ ((if hasQ q.k 5 = true then leOf q.f.toNat 4 else []) ++ ((if hasQ q.k 6 = true then leOf q.m.toNat 4 else []) ++ (if hasQ q.k 7 = true then leOf q.o.size 2 ++ sb q.o else [])))))) := by
  unfold hasQ
  rcases fdQ_cases q.k with h | h | h | h | h | h | h | h | h
  all_goals
    rw [h]
    simp [layL, layF, Rq.cs]

theorem win_nat {x : Int} (h : win x = true) : ∃ n : Nat, x = (n : Int) ∧ x.toNat = n ∧ n < 4294967296 := by
  unfold win at h
  simp only [decide_eq_true_eq] at h
  exact ⟨x.toNat, by omega, rfl, by omega⟩

set_option maxRecDepth 100000 in
set_option maxHeartbeats 2000000 in
theorem rputreq19 (w : World) (q : Rq) : Calls Try.prog 11 #[.agg (rqV q)] w fun e w' => PutA w w' (perr q) (pqB q) e := by
  obtain ⟨W1, hW1⟩ : ∃ W, W = w.alloc (.cells #[.int .i64 q.k, .int .i64 q.x, .string q.a, .string q.e, .string q.d, .int .i64 q.f, .int .i64 q.m, .string q.o] 24) := ⟨_, rfl⟩
  obtain ⟨p, hp⟩ : ∃ b, b = w.heap.size := ⟨_, rfl⟩
  have HK1 : Hid (Same w W1) := hid (by rw [hW1]; exact (Kept.refl _ w).alloc _)
  have hO : Ob W1 p 24 q.cs := by rw [hW1, hp]; exact obQ w q
  have HO1 := hid hO
  obtain ⟨c0, c1, c2, c3, c4, c5, c6, c7⟩ := hO.eight
  obtain ⟨hA, hB, hC, hD, hE⟩ := perr_is q
  have HE1 := hid hA
  have HE2 := hid hB
  have HE3 := hid hC
  have HE4 := hid hD
  have HE5 := hid hE
  have HFL := rfields19 W1 q.k
  have HFC := hid (flags_cases q.k)
  have HOT : Hid (othQ q = !(decide ((if hasQ q.k 1 = true then 0 else q.x) = 0) && decide ((if hasQ q.k 2 = true then ⟨#[]⟩ else q.a) = ⟨#[]⟩) && decide ((if hasQ q.k 3 = true then ⟨#[]⟩ else q.e) = ⟨#[]⟩) && decide ((if hasQ q.k 4 = true then ⟨#[]⟩ else q.d) = ⟨#[]⟩) && decide ((if hasQ q.k 5 = true then 0 else q.f) = 0) && decide ((if hasQ q.k 6 = true then 0 else q.m) = 0) && decide ((if hasQ q.k 7 = true then ⟨#[]⟩ else q.o) = ⟨#[]⟩))) := hid rfl
  unfold FlA flA at HFL
  obtain ⟨f1, hf1⟩ : ∃ b, b = hasQ q.k 1 := ⟨_, rfl⟩
  obtain ⟨f2, hf2⟩ : ∃ b, b = hasQ q.k 2 := ⟨_, rfl⟩
  obtain ⟨f3, hf3⟩ : ∃ b, b = hasQ q.k 3 := ⟨_, rfl⟩
  obtain ⟨f4, hf4⟩ : ∃ b, b = hasQ q.k 4 := ⟨_, rfl⟩
  obtain ⟨f5, hf5⟩ : ∃ b, b = hasQ q.k 5 := ⟨_, rfl⟩
  obtain ⟨f6, hf6⟩ : ∃ b, b = hasQ q.k 6 := ⟨_, rfl⟩
  obtain ⟨f7, hf7⟩ : ∃ b, b = hasQ q.k 7 := ⟨_, rfl⟩
  rw [← hf1, ← hf2, ← hf3, ← hf4, ← hf5, ← hf6, ← hf7] at HFL HFC HOT
  have HFF : Hid (f1 = hasQ q.k 1 ∧ f2 = hasQ q.k 2 ∧ f3 = hasQ q.k 3 ∧ f4 = hasQ q.k 4 ∧ f5 = hasQ q.k 5 ∧ f6 = hasQ q.k 6 ∧ f7 = hasQ q.k 7) := hid ⟨hf1, hf2, hf3, hf4, hf5, hf6, hf7⟩
  clear hO hA hB hC hD hE hf1 hf2 hf3 hf4 hf5 hf6 hf7
  cases hk0 : okK q.k with
  | false =>
    rw [hk0] at HFL
    have HE : Hid (perr q = 191) := hid (HE1.out hk0)
    clear hk0
    unfold rqV
    go_enter Try.func11, Try.ntmps11
    go_upto_region 1 with fail
    rw [← hW1, ← hp]
    clear hW1 hp
    go_wp2_with fail
    refine HFL.mono ?_
    rintro e w2 ⟨rfl, hk2⟩
    have HK2 := hid (Same.trans HK1.out hk2)
    clear hk2 HFL
    obtain ⟨W3, hW3⟩ : ∃ W, W = w2.alloc (.cells #[.bool f1, .bool f2, .bool f3, .bool f4, .bool f5, .bool f6, .bool f7] 53) := ⟨_, rfl⟩
    have HK3 : Hid (Same w W3) := hid (by rw [hW3]; exact HK2.out.alloc _)
    go_upto_region 2 with fail
    rw [← hW3]
    clear hW3
    go_wp2_with fail
    go_ret2
    rw [HE.out]
    exact putA_none (pqB_none HE.out (by decide)) HK3.out
  | true =>
    rw [hk0] at HFL
    have HKB : Hid (okK q.k = true) := hk0
    obtain ⟨h4, h5⟩ := okK_nat hk0
    obtain ⟨kn, hkn⟩ : ∃ kn, kn = q.k.toNat := ⟨_, rfl⟩
    rw [← hkn] at h4 h5
    have HKN : Hid (q.k = (kn : Int) ∧ q.k.toNat = kn ∧ kn ≤ 13) := hid ⟨h4.symm, hkn.symm, h5⟩
    have hkw : IntKind.u8.wrap q.k = (kn : Int) := by rw [← h4, IntKind.wrap_u8]; omega
    clear hk0 h4 h5 hkn
    unfold rqV
    go_enter Try.func11, Try.ntmps11
    go_upto_region 1 with fail
    rw [← hW1, ← hp]
    clear hW1 hp
    go_wp2_with fail
    refine HFL.mono ?_
    rintro e w2 ⟨rfl, hk2⟩
    have HK2 := hid (Same.trans HK1.out hk2)
    obtain ⟨W3, hW3⟩ : ∃ W, W = w2.alloc (.cells #[.bool f1, .bool f2, .bool f3, .bool f4, .bool f5, .bool f6, .bool f7] 53) := ⟨_, rfl⟩
    obtain ⟨g, hg⟩ : ∃ b, b = w2.heap.size := ⟨_, rfl⟩
    have HK3 : Hid (Same w W3) := hid (by rw [hW3]; exact HK2.out.alloc _)
    have HBG : Hid (Blk W3 g #[.bool f1, .bool f2, .bool f3, .bool f4, .bool f5, .bool f6, .bool f7] 53) := hid (by rw [hW3, hg]; exact Blk.new _ _ _)
    have HO3 : Hid (Ob W3 p 24 q.cs) := hid (HO1.out.kept (Same.trans hk2 (by rw [hW3]; exact (Kept.refl _ _).alloc _)) (fun f => f))
    clear hk2 HFL c0 c1 c2 c3 c4 c5 c6 c7
    go_upto_region 2 with fail
    rw [← hW3, ← hg]
    clear hW3 hg
    go_upto_region 4 with fail
    generalize Value.agg #[.int .i64 q.k, .int .i64 q.x, .string q.a, .string q.e, .string q.d, .int .i64 q.f, .int .i64 q.m, .string q.o] = V0
    obtain ⟨c0, c1, c2, c3, c4, c5, c6, c7⟩ := HO3.out.eight
    obtain ⟨g0, g1, g2, g3, g4, g5, g6⟩ := HBG.out.seven
    go_cut [6] from 16 to 76 (fun z wx => ∃ b : Bool, z = .bool b ∧ wx = W3 ∧ Hid (b = !othQ q))
    case first =>
      rcases HFC.out with ⟨k1, k2, k3, k4, k5, k6, k7⟩ | ⟨k1, k2, k3, k4, k5, k6, k7⟩ | ⟨k1, k2, k3, k4, k5, k6, k7⟩ | ⟨k1, k2, k3, k4, k5, k6, k7⟩ | ⟨k1, k2, k3, k4, k5, k6, k7⟩ | ⟨k1, k2, k3, k4, k5, k6, k7⟩ | ⟨k1, k2, k3, k4, k5, k6, k7⟩ | ⟨k1, k2, k3, k4, k5, k6, k7⟩ | ⟨k1, k2, k3, k4, k5, k6, k7⟩
      all_goals
        subst k1 k2 k3 k4 k5 k6 k7
        go_wp2_with fail
      all_goals
        go_meet
        refine ⟨_, rfl, rfl, hid ?_⟩
        rw [HOT.out]
        simp [*, ← empty19, isEmpty_dec]
    case rest =>
      obtain ⟨b, rfl, hwc, HB⟩ := hcut
      rw [hwc]
      clear hwc
      cases b with
      | false =>
        have HE : Hid (perr q = 1) := hid (HE2.out HKB.out (by have := HB.out; cases h : othQ q with | true => rfl | false => rw [h] at this; cases this))
        go_wp2_with fail
        go_ret2
        rw [HE.out]
        exact putA_none (pqB_none HE.out (by decide)) HK3.out
      | true =>
      have HOQ : Hid (othQ q = false) := hid (by have := HB.out; cases h : othQ q with | false => rfl | true => rw [h] at this; cases this)
      have HW1 := rwithin19 W3 q.x
      have HW2 := rwithin19 W3 q.f
      have HW3 := rwithin19 W3 q.m
      cases hw1 : win q.x with
      | false =>
        have HE : Hid (perr q = 1) := hid (HE3.out HKB.out HOQ.out (.inl hw1))
        rw [hw1] at HW1
        clear hw1
        go_wp2_with fail
        refine HW1.mono ?_
        rintro e w4 ⟨rfl, hw4⟩
        subst hw4
        go_wp2_with fail
        go_ret2
        rw [HE.out]
        exact putA_none (pqB_none HE.out (by decide)) HK3.out
      | true =>
      have HX1 := hid (win_nat hw1)
      rw [hw1] at HW1
      go_wp2_with fail
      refine HW1.mono ?_
      rintro e w4 ⟨rfl, hw4⟩
      subst hw4
      clear HW1
      cases hw2 : win q.f with
      | false =>
        have HE : Hid (perr q = 1) := hid (HE3.out HKB.out HOQ.out (.inr (.inl hw2)))
        rw [hw2] at HW2
        clear hw2
        go_wp2_with fail
        refine HW2.mono ?_
        rintro e w4 ⟨rfl, hw4⟩
        subst hw4
        go_wp2_with fail
        go_ret2
        rw [HE.out]
        exact putA_none (pqB_none HE.out (by decide)) HK3.out
      | true =>
      have HX2 := hid (win_nat hw2)
      rw [hw2] at HW2
      go_wp2_with fail
      refine HW2.mono ?_
      rintro e w4 ⟨rfl, hw4⟩
      subst hw4
      clear HW2
      cases hw3 : win q.m with
      | false =>
        have HE : Hid (perr q = 1) := hid (HE3.out HKB.out HOQ.out (.inr (.inr hw3)))
        rw [hw3] at HW3
        clear hw3
        go_wp2_with fail
        refine HW3.mono ?_
        rintro e w4 ⟨rfl, hw4⟩
        subst hw4
        go_wp2_with fail
        go_ret2
        rw [HE.out]
        exact putA_none (pqB_none HE.out (by decide)) HK3.out
      | true =>
      have HX3 := hid (win_nat hw3)
      have HNB : Hid (¬ badQ q) := hid (by unfold badQ; rw [hw1, hw2, hw3]; simp)
      rw [hw3] at HW3
      clear hw1 hw2 hw3
      obtain ⟨x2, h2⟩ : ∃ n, n = q.a.size := ⟨_, rfl⟩
      obtain ⟨x3, h3⟩ : ∃ n, n = q.e.size := ⟨_, rfl⟩
      obtain ⟨x4, h4⟩ : ∃ n, n = q.d.size := ⟨_, rfl⟩
      obtain ⟨x7, h7⟩ : ∃ n, n = q.o.size := ⟨_, rfl⟩
      have s2 : q.a.size = x2 := h2.symm
      have s3 : q.e.size = x3 := h3.symm
      have s4 : q.d.size = x4 := h4.symm
      have s7 : q.o.size = x7 := h7.symm
      have HS := hid (And.intro s2 (And.intro s3 (And.intro s4 s7)))
      clear h2 h3 h4 h7
      go_wp2_with fail
      refine HW3.mono ?_
      rintro e w4 ⟨rfl, hw4⟩
      subst hw4
      clear HW3
      have HBQ : Hid (bigQ q ↔ (255 < x2 ∨ 255 < x3 ∨ 256 < x7 ∨ 16384 < x4)) := hid (by unfold bigQ; rw [HS.out.1, HS.out.2.1, HS.out.2.2.1, HS.out.2.2.2])
      by_cases l2 : 255 < x2
      case' pos =>
        have HE : Hid (perr q = 2) := hid (HE4.out HKB.out HOQ.out HNB.out (HBQ.out.2 (.inl l2)))
        have d1 : decide ((255 : Int) < (x2 : Int)) = true := by simp; omega
        have d2 : decide (255 < x2) = true := by simp; omega
        clear l2
      case' neg =>
        have d1 : decide ((255 : Int) < (x2 : Int)) = false := by simp; omega
        have d2 : decide (255 < x2) = false := by simp; omega
        by_cases l3 : 255 < x3
        case' pos =>
          have HE : Hid (perr q = 2) := hid (HE4.out HKB.out HOQ.out HNB.out (HBQ.out.2 (.inr (.inl l3))))
          have d3 : decide ((255 : Int) < (x3 : Int)) = true := by simp; omega
          have d4 : decide (255 < x3) = true := by simp; omega
          clear l2 l3
        case' neg =>
          have d3 : decide ((255 : Int) < (x3 : Int)) = false := by simp; omega
          have d4 : decide (255 < x3) = false := by simp; omega
          by_cases l7 : 256 < x7
          case' pos =>
            have HE : Hid (perr q = 2) := hid (HE4.out HKB.out HOQ.out HNB.out (HBQ.out.2 (.inr (.inr (.inl l7)))))
            have d5 : decide ((256 : Int) < (x7 : Int)) = true := by simp; omega
            have d6 : decide (256 < x7) = true := by simp; omega
            clear l2 l3 l7
          case' neg =>
            have d5 : decide ((256 : Int) < (x7 : Int)) = false := by simp; omega
            have d6 : decide (256 < x7) = false := by simp; omega
            by_cases l4 : 16384 < x4
            case' pos =>
              have HE : Hid (perr q = 2) := hid (HE4.out HKB.out HOQ.out HNB.out (HBQ.out.2 (.inr (.inr (.inr l4)))))
              have d7 : decide ((16384 : Int) < (x4 : Int)) = true := by simp; omega
              have d8 : decide (16384 < x4) = true := by simp; omega
              clear l2 l3 l7 l4
      case neg =>
        have HE : Hid (perr q = 0) := hid (HE5.out HKB.out HOQ.out HNB.out (fun h => by rcases HBQ.out.1 h with h | h | h | h; exact l2 h; exact l3 h; exact l7 h; exact l4 h))
        have d7 : decide ((16384 : Int) < (x4 : Int)) = false := by simp; omega
        have d8 : decide (16384 < x4) = false := by simp; omega
        have HZ : Hid (x2 ≤ 255 ∧ x3 ≤ 255 ∧ x7 ≤ 256 ∧ x4 ≤ 16384) := hid ⟨by omega, by omega, by omega, by omega⟩
        clear l2 l3 l7 l4
        obtain ⟨y1, hx1, ht1, hl1⟩ := HX1.out
        obtain ⟨y5, hx5, ht5, hl5⟩ := HX2.out
        obtain ⟨y6, hx6, ht6, hl6⟩ := HX3.out
        have HX : Hid (q.x = (y1 : Int) ∧ q.f = (y5 : Int) ∧ q.m = (y6 : Int)) := hid ⟨hx1, hx5, hx6⟩
        have HY : Hid (q.x.toNat = y1 ∧ q.f.toNat = y5 ∧ q.m.toNat = y6) := hid ⟨ht1, ht5, ht6⟩
        have HN1 : Hid (∀ w v bs n, Fresh w4 w v bs → bs.length ≤ n * 20000 → n ≤ 20 → Calls Try.prog 31 #[v, .int .i64 (y1 : Nat)] w fun e w' => ∃ v', e = .returned v' ∧ Fresh w4 w' v' (bs ++ leOf y1 4) ∧ (bs ++ leOf y1 4).length ≤ (n + 1) * 20000) := hid (fun w v bs n h hb hn => (rnumber19 w4 w v bs h y1 hl1 (by omega)).mono (fun e w' ⟨v', h1, h2⟩ => ⟨v', h1, h2, by rw [List.length_append, leOf_length]; omega⟩))
        have HN2 : Hid (∀ w v bs n, Fresh w4 w v bs → bs.length ≤ n * 20000 → n ≤ 20 → Calls Try.prog 32 #[v, .string q.a] w fun e w' => ∃ v', e = .returned v' ∧ Fresh w4 w' v' (bs ++ (leOf q.a.size 2 ++ sb q.a)) ∧ (bs ++ (leOf q.a.size 2 ++ sb q.a)).length ≤ (n + 1) * 20000) := hid (fun w v bs n h hb hn => (rtext19 w4 w v bs h q.a (by have := HZ.out; have := HS.out; omega) (by omega)).mono (fun e w' ⟨v', h1, h2⟩ => ⟨v', h1, h2, by have := HZ.out; have := HS.out; rw [List.length_append, List.length_append, leOf_length, sb_size]; omega⟩))
        have HN3 : Hid (∀ w v bs n, Fresh w4 w v bs → bs.length ≤ n * 20000 → n ≤ 20 → Calls Try.prog 32 #[v, .string q.e] w fun e w' => ∃ v', e = .returned v' ∧ Fresh w4 w' v' (bs ++ (leOf q.e.size 2 ++ sb q.e)) ∧ (bs ++ (leOf q.e.size 2 ++ sb q.e)).length ≤ (n + 1) * 20000) := hid (fun w v bs n h hb hn => (rtext19 w4 w v bs h q.e (by have := HZ.out; have := HS.out; omega) (by omega)).mono (fun e w' ⟨v', h1, h2⟩ => ⟨v', h1, h2, by have := HZ.out; have := HS.out; rw [List.length_append, List.length_append, leOf_length, sb_size]; omega⟩))
        have HN4 : Hid (∀ w v bs n, Fresh w4 w v bs → bs.length ≤ n * 20000 → n ≤ 20 → Calls Try.prog 32 #[v, .string q.d] w fun e w' => ∃ v', e = .returned v' ∧ Fresh w4 w' v' (bs ++ (leOf q.d.size 2 ++ sb q.d)) ∧ (bs ++ (leOf q.d.size 2 ++ sb q.d)).length ≤ (n + 1) * 20000) := hid (fun w v bs n h hb hn => (rtext19 w4 w v bs h q.d (by have := HZ.out; have := HS.out; omega) (by omega)).mono (fun e w' ⟨v', h1, h2⟩ => ⟨v', h1, h2, by have := HZ.out; have := HS.out; rw [List.length_append, List.length_append, leOf_length, sb_size]; omega⟩))
        have HN5 : Hid (∀ w v bs n, Fresh w4 w v bs → bs.length ≤ n * 20000 → n ≤ 20 → Calls Try.prog 31 #[v, .int .i64 (y5 : Nat)] w fun e w' => ∃ v', e = .returned v' ∧ Fresh w4 w' v' (bs ++ leOf y5 4) ∧ (bs ++ leOf y5 4).length ≤ (n + 1) * 20000) := hid (fun w v bs n h hb hn => (rnumber19 w4 w v bs h y5 hl5 (by omega)).mono (fun e w' ⟨v', h1, h2⟩ => ⟨v', h1, h2, by rw [List.length_append, leOf_length]; omega⟩))
        have HN6 : Hid (∀ w v bs n, Fresh w4 w v bs → bs.length ≤ n * 20000 → n ≤ 20 → Calls Try.prog 31 #[v, .int .i64 (y6 : Nat)] w fun e w' => ∃ v', e = .returned v' ∧ Fresh w4 w' v' (bs ++ leOf y6 4) ∧ (bs ++ leOf y6 4).length ≤ (n + 1) * 20000) := hid (fun w v bs n h hb hn => (rnumber19 w4 w v bs h y6 hl6 (by omega)).mono (fun e w' ⟨v', h1, h2⟩ => ⟨v', h1, h2, by rw [List.length_append, leOf_length]; omega⟩))
        have HN7 : Hid (∀ w v bs n, Fresh w4 w v bs → bs.length ≤ n * 20000 → n ≤ 20 → Calls Try.prog 32 #[v, .string q.o] w fun e w' => ∃ v', e = .returned v' ∧ Fresh w4 w' v' (bs ++ (leOf q.o.size 2 ++ sb q.o)) ∧ (bs ++ (leOf q.o.size 2 ++ sb q.o)).length ≤ (n + 1) * 20000) := hid (fun w v bs n h hb hn => (rtext19 w4 w v bs h q.o (by have := HZ.out; have := HS.out; omega) (by omega)).mono (fun e w' ⟨v', h1, h2⟩ => ⟨v', h1, h2, by have := HZ.out; have := HS.out; rw [List.length_append, List.length_append, leOf_length, sb_size]; omega⟩))
        obtain ⟨W5, hW5⟩ : ∃ W, W = w4.alloc (.cells #[.int .u8 (kn : Nat)] 5) := ⟨_, rfl⟩
        obtain ⟨xb, hxb⟩ : ∃ b, b = w4.heap.size := ⟨_, rfl⟩
        have hf : Fresh w4 W5 (.slice (some ⟨xb, 0, none⟩) 1 1) [kn] := by rw [hW5, hxb]; exact fresh_lit w4 w4 (Kept.refl _ _) [kn] 1 rfl (by decide)
        have HF : Hid (Fresh w4 W5 (.slice (some ⟨xb, 0, none⟩) 1 1) [kn] ∧ [kn].length ≤ 1 * 20000) := hid ⟨hf, by simp⟩
        go_upto_region 10 with fail
        rw [← hW5, ← hxb]
        clear hW5 hxb
        obtain ⟨c0, c1, c2, c3, c4, c5, c6, c7⟩ := (HO3.out.kept hf.kept (fun f => f)).eight
        obtain ⟨g0, g1, g2, g3, g4, g5, g6⟩ := (HBG.out.kept hf.kept (fun f => f)).seven
        rw [HX.out.1] at c1
        rw [HX.out.2.1] at c5
        rw [HX.out.2.2] at c6
        clear hf hx1 hx5 hx6 ht1 ht5 ht6 hl1 hl5 hl6 d1 d2 d3 d4 d5 d6 d7 d8 s2 s3 s4 s7
        rcases HFC.out with ⟨k1, k2, k3, k4, k5, k6, k7⟩ | ⟨k1, k2, k3, k4, k5, k6, k7⟩ | ⟨k1, k2, k3, k4, k5, k6, k7⟩ | ⟨k1, k2, k3, k4, k5, k6, k7⟩ | ⟨k1, k2, k3, k4, k5, k6, k7⟩ | ⟨k1, k2, k3, k4, k5, k6, k7⟩ | ⟨k1, k2, k3, k4, k5, k6, k7⟩ | ⟨k1, k2, k3, k4, k5, k6, k7⟩ | ⟨k1, k2, k3, k4, k5, k6, k7⟩
        · -- Hello
          subst k1 k2 k3 k4 k5 k6 k7
          go_wp2_with fail
          refine (HN7.out _ _ _ 1 HF.out.1 HF.out.2 (by decide)).mono ?_
          rintro e wn ⟨vn, rfl, hfn, hln⟩
          have HF := hid (And.intro hfn hln)
          obtain ⟨c0, c1, c2, c3, c4, c5, c6, c7⟩ := (HO3.out.kept hfn.kept (fun f => f)).eight
          obtain ⟨g0, g1, g2, g3, g4, g5, g6⟩ := (HBG.out.kept hfn.kept (fun f => f)).seven
          rw [HX.out.1] at c1
          rw [HX.out.2.1] at c5
          rw [HX.out.2.2] at c6
          clear hfn hln
          go_wp2_with fail
          go_ret2
          refine ⟨_, by rw [HE.out]; rfl, ?_⟩
          have hb : pqB q = kn :: layL q.cs (fdQ q.k) := by unfold pqB pbyt; rw [if_pos HE.out, HKN.out.2.1]
          rw [hb, lay_is, ← HFF.out.1, ← HFF.out.2.1, ← HFF.out.2.2.1, ← HFF.out.2.2.2.1, ← HFF.out.2.2.2.2.1, ← HFF.out.2.2.2.2.2.1, ← HFF.out.2.2.2.2.2.2, HY.out.1, HY.out.2.1, HY.out.2.2]
          have hff := HF.out.1
          simp at hff ⊢
          exact ⟨hff.row, Same.trans HK3.out hff.kept, fun k e => Nat.le_trans HK3.out.size (hff.new k e)⟩
        · -- Read
          subst k1 k2 k3 k4 k5 k6 k7
          go_wp2_with fail
          refine (HN1.out _ _ _ 1 HF.out.1 HF.out.2 (by decide)).mono ?_
          rintro e wn ⟨vn, rfl, hfn, hln⟩
          have HF := hid (And.intro hfn hln)
          obtain ⟨c0, c1, c2, c3, c4, c5, c6, c7⟩ := (HO3.out.kept hfn.kept (fun f => f)).eight
          obtain ⟨g0, g1, g2, g3, g4, g5, g6⟩ := (HBG.out.kept hfn.kept (fun f => f)).seven
          rw [HX.out.1] at c1
          rw [HX.out.2.1] at c5
          rw [HX.out.2.2] at c6
          clear hfn hln
          go_wp2_with fail
          refine (HN2.out _ _ _ 2 HF.out.1 HF.out.2 (by decide)).mono ?_
          rintro e wn ⟨vn, rfl, hfn, hln⟩
          have HF := hid (And.intro hfn hln)
          obtain ⟨c0, c1, c2, c3, c4, c5, c6, c7⟩ := (HO3.out.kept hfn.kept (fun f => f)).eight
          obtain ⟨g0, g1, g2, g3, g4, g5, g6⟩ := (HBG.out.kept hfn.kept (fun f => f)).seven
          rw [HX.out.1] at c1
          rw [HX.out.2.1] at c5
          rw [HX.out.2.2] at c6
          clear hfn hln
          go_wp2_with fail
          refine (HN3.out _ _ _ 3 HF.out.1 HF.out.2 (by decide)).mono ?_
          rintro e wn ⟨vn, rfl, hfn, hln⟩
          have HF := hid (And.intro hfn hln)
          obtain ⟨c0, c1, c2, c3, c4, c5, c6, c7⟩ := (HO3.out.kept hfn.kept (fun f => f)).eight
          obtain ⟨g0, g1, g2, g3, g4, g5, g6⟩ := (HBG.out.kept hfn.kept (fun f => f)).seven
          rw [HX.out.1] at c1
          rw [HX.out.2.1] at c5
          rw [HX.out.2.2] at c6
          clear hfn hln
          go_wp2_with fail
          refine (HN5.out _ _ _ 4 HF.out.1 HF.out.2 (by decide)).mono ?_
          rintro e wn ⟨vn, rfl, hfn, hln⟩
          have HF := hid (And.intro hfn hln)
          obtain ⟨c0, c1, c2, c3, c4, c5, c6, c7⟩ := (HO3.out.kept hfn.kept (fun f => f)).eight
          obtain ⟨g0, g1, g2, g3, g4, g5, g6⟩ := (HBG.out.kept hfn.kept (fun f => f)).seven
          rw [HX.out.1] at c1
          rw [HX.out.2.1] at c5
          rw [HX.out.2.2] at c6
          clear hfn hln
          go_wp2_with fail
          refine (HN6.out _ _ _ 5 HF.out.1 HF.out.2 (by decide)).mono ?_
          rintro e wn ⟨vn, rfl, hfn, hln⟩
          have HF := hid (And.intro hfn hln)
          obtain ⟨c0, c1, c2, c3, c4, c5, c6, c7⟩ := (HO3.out.kept hfn.kept (fun f => f)).eight
          obtain ⟨g0, g1, g2, g3, g4, g5, g6⟩ := (HBG.out.kept hfn.kept (fun f => f)).seven
          rw [HX.out.1] at c1
          rw [HX.out.2.1] at c5
          rw [HX.out.2.2] at c6
          clear hfn hln
          go_wp2_with fail
          go_ret2
          refine ⟨_, by rw [HE.out]; rfl, ?_⟩
          have hb : pqB q = kn :: layL q.cs (fdQ q.k) := by unfold pqB pbyt; rw [if_pos HE.out, HKN.out.2.1]
          rw [hb, lay_is, ← HFF.out.1, ← HFF.out.2.1, ← HFF.out.2.2.1, ← HFF.out.2.2.2.1, ← HFF.out.2.2.2.2.1, ← HFF.out.2.2.2.2.2.1, ← HFF.out.2.2.2.2.2.2, HY.out.1, HY.out.2.1, HY.out.2.2]
          have hff := HF.out.1
          simp at hff ⊢
          exact ⟨hff.row, Same.trans HK3.out hff.kept, fun k e => Nat.le_trans HK3.out.size (hff.new k e)⟩
        · -- List
          subst k1 k2 k3 k4 k5 k6 k7
          go_wp2_with fail
          refine (HN1.out _ _ _ 1 HF.out.1 HF.out.2 (by decide)).mono ?_
          rintro e wn ⟨vn, rfl, hfn, hln⟩
          have HF := hid (And.intro hfn hln)
          obtain ⟨c0, c1, c2, c3, c4, c5, c6, c7⟩ := (HO3.out.kept hfn.kept (fun f => f)).eight
          obtain ⟨g0, g1, g2, g3, g4, g5, g6⟩ := (HBG.out.kept hfn.kept (fun f => f)).seven
          rw [HX.out.1] at c1
          rw [HX.out.2.1] at c5
          rw [HX.out.2.2] at c6
          clear hfn hln
          go_wp2_with fail
          refine (HN2.out _ _ _ 2 HF.out.1 HF.out.2 (by decide)).mono ?_
          rintro e wn ⟨vn, rfl, hfn, hln⟩
          have HF := hid (And.intro hfn hln)
          obtain ⟨c0, c1, c2, c3, c4, c5, c6, c7⟩ := (HO3.out.kept hfn.kept (fun f => f)).eight
          obtain ⟨g0, g1, g2, g3, g4, g5, g6⟩ := (HBG.out.kept hfn.kept (fun f => f)).seven
          rw [HX.out.1] at c1
          rw [HX.out.2.1] at c5
          rw [HX.out.2.2] at c6
          clear hfn hln
          go_wp2_with fail
          go_ret2
          refine ⟨_, by rw [HE.out]; rfl, ?_⟩
          have hb : pqB q = kn :: layL q.cs (fdQ q.k) := by unfold pqB pbyt; rw [if_pos HE.out, HKN.out.2.1]
          rw [hb, lay_is, ← HFF.out.1, ← HFF.out.2.1, ← HFF.out.2.2.1, ← HFF.out.2.2.2.1, ← HFF.out.2.2.2.2.1, ← HFF.out.2.2.2.2.2.1, ← HFF.out.2.2.2.2.2.2, HY.out.1, HY.out.2.1, HY.out.2.2]
          have hff := HF.out.1
          simp at hff ⊢
          exact ⟨hff.row, Same.trans HK3.out hff.kept, fun k e => Nat.le_trans HK3.out.size (hff.new k e)⟩
        · -- Put
          subst k1 k2 k3 k4 k5 k6 k7
          go_wp2_with fail
          refine (HN1.out _ _ _ 1 HF.out.1 HF.out.2 (by decide)).mono ?_
          rintro e wn ⟨vn, rfl, hfn, hln⟩
          have HF := hid (And.intro hfn hln)
          obtain ⟨c0, c1, c2, c3, c4, c5, c6, c7⟩ := (HO3.out.kept hfn.kept (fun f => f)).eight
          obtain ⟨g0, g1, g2, g3, g4, g5, g6⟩ := (HBG.out.kept hfn.kept (fun f => f)).seven
          rw [HX.out.1] at c1
          rw [HX.out.2.1] at c5
          rw [HX.out.2.2] at c6
          clear hfn hln
          go_wp2_with fail
          refine (HN2.out _ _ _ 2 HF.out.1 HF.out.2 (by decide)).mono ?_
          rintro e wn ⟨vn, rfl, hfn, hln⟩
          have HF := hid (And.intro hfn hln)
          obtain ⟨c0, c1, c2, c3, c4, c5, c6, c7⟩ := (HO3.out.kept hfn.kept (fun f => f)).eight
          obtain ⟨g0, g1, g2, g3, g4, g5, g6⟩ := (HBG.out.kept hfn.kept (fun f => f)).seven
          rw [HX.out.1] at c1
          rw [HX.out.2.1] at c5
          rw [HX.out.2.2] at c6
          clear hfn hln
          go_wp2_with fail
          refine (HN3.out _ _ _ 3 HF.out.1 HF.out.2 (by decide)).mono ?_
          rintro e wn ⟨vn, rfl, hfn, hln⟩
          have HF := hid (And.intro hfn hln)
          obtain ⟨c0, c1, c2, c3, c4, c5, c6, c7⟩ := (HO3.out.kept hfn.kept (fun f => f)).eight
          obtain ⟨g0, g1, g2, g3, g4, g5, g6⟩ := (HBG.out.kept hfn.kept (fun f => f)).seven
          rw [HX.out.1] at c1
          rw [HX.out.2.1] at c5
          rw [HX.out.2.2] at c6
          clear hfn hln
          go_wp2_with fail
          refine (HN4.out _ _ _ 4 HF.out.1 HF.out.2 (by decide)).mono ?_
          rintro e wn ⟨vn, rfl, hfn, hln⟩
          have HF := hid (And.intro hfn hln)
          obtain ⟨c0, c1, c2, c3, c4, c5, c6, c7⟩ := (HO3.out.kept hfn.kept (fun f => f)).eight
          obtain ⟨g0, g1, g2, g3, g4, g5, g6⟩ := (HBG.out.kept hfn.kept (fun f => f)).seven
          rw [HX.out.1] at c1
          rw [HX.out.2.1] at c5
          rw [HX.out.2.2] at c6
          clear hfn hln
          go_wp2_with fail
          go_ret2
          refine ⟨_, by rw [HE.out]; rfl, ?_⟩
          have hb : pqB q = kn :: layL q.cs (fdQ q.k) := by unfold pqB pbyt; rw [if_pos HE.out, HKN.out.2.1]
          rw [hb, lay_is, ← HFF.out.1, ← HFF.out.2.1, ← HFF.out.2.2.1, ← HFF.out.2.2.2.1, ← HFF.out.2.2.2.2.1, ← HFF.out.2.2.2.2.2.1, ← HFF.out.2.2.2.2.2.2, HY.out.1, HY.out.2.1, HY.out.2.2]
          have hff := HF.out.1
          simp at hff ⊢
          exact ⟨hff.row, Same.trans HK3.out hff.kept, fun k e => Nat.le_trans HK3.out.size (hff.new k e)⟩
        · -- Delete
          subst k1 k2 k3 k4 k5 k6 k7
          go_wp2_with fail
          refine (HN1.out _ _ _ 1 HF.out.1 HF.out.2 (by decide)).mono ?_
          rintro e wn ⟨vn, rfl, hfn, hln⟩
          have HF := hid (And.intro hfn hln)
          obtain ⟨c0, c1, c2, c3, c4, c5, c6, c7⟩ := (HO3.out.kept hfn.kept (fun f => f)).eight
          obtain ⟨g0, g1, g2, g3, g4, g5, g6⟩ := (HBG.out.kept hfn.kept (fun f => f)).seven
          rw [HX.out.1] at c1
          rw [HX.out.2.1] at c5
          rw [HX.out.2.2] at c6
          clear hfn hln
          go_wp2_with fail
          refine (HN2.out _ _ _ 2 HF.out.1 HF.out.2 (by decide)).mono ?_
          rintro e wn ⟨vn, rfl, hfn, hln⟩
          have HF := hid (And.intro hfn hln)
          obtain ⟨c0, c1, c2, c3, c4, c5, c6, c7⟩ := (HO3.out.kept hfn.kept (fun f => f)).eight
          obtain ⟨g0, g1, g2, g3, g4, g5, g6⟩ := (HBG.out.kept hfn.kept (fun f => f)).seven
          rw [HX.out.1] at c1
          rw [HX.out.2.1] at c5
          rw [HX.out.2.2] at c6
          clear hfn hln
          go_wp2_with fail
          refine (HN3.out _ _ _ 3 HF.out.1 HF.out.2 (by decide)).mono ?_
          rintro e wn ⟨vn, rfl, hfn, hln⟩
          have HF := hid (And.intro hfn hln)
          obtain ⟨c0, c1, c2, c3, c4, c5, c6, c7⟩ := (HO3.out.kept hfn.kept (fun f => f)).eight
          obtain ⟨g0, g1, g2, g3, g4, g5, g6⟩ := (HBG.out.kept hfn.kept (fun f => f)).seven
          rw [HX.out.1] at c1
          rw [HX.out.2.1] at c5
          rw [HX.out.2.2] at c6
          clear hfn hln
          go_wp2_with fail
          go_ret2
          refine ⟨_, by rw [HE.out]; rfl, ?_⟩
          have hb : pqB q = kn :: layL q.cs (fdQ q.k) := by unfold pqB pbyt; rw [if_pos HE.out, HKN.out.2.1]
          rw [hb, lay_is, ← HFF.out.1, ← HFF.out.2.1, ← HFF.out.2.2.1, ← HFF.out.2.2.2.1, ← HFF.out.2.2.2.2.1, ← HFF.out.2.2.2.2.2.1, ← HFF.out.2.2.2.2.2.2, HY.out.1, HY.out.2.1, HY.out.2.2]
          have hff := HF.out.1
          simp at hff ⊢
          exact ⟨hff.row, Same.trans HK3.out hff.kept, fun k e => Nat.le_trans HK3.out.size (hff.new k e)⟩
        · -- Commit
          subst k1 k2 k3 k4 k5 k6 k7
          go_wp2_with fail
          refine (HN1.out _ _ _ 1 HF.out.1 HF.out.2 (by decide)).mono ?_
          rintro e wn ⟨vn, rfl, hfn, hln⟩
          have HF := hid (And.intro hfn hln)
          obtain ⟨c0, c1, c2, c3, c4, c5, c6, c7⟩ := (HO3.out.kept hfn.kept (fun f => f)).eight
          obtain ⟨g0, g1, g2, g3, g4, g5, g6⟩ := (HBG.out.kept hfn.kept (fun f => f)).seven
          rw [HX.out.1] at c1
          rw [HX.out.2.1] at c5
          rw [HX.out.2.2] at c6
          clear hfn hln
          go_wp2_with fail
          go_ret2
          refine ⟨_, by rw [HE.out]; rfl, ?_⟩
          have hb : pqB q = kn :: layL q.cs (fdQ q.k) := by unfold pqB pbyt; rw [if_pos HE.out, HKN.out.2.1]
          rw [hb, lay_is, ← HFF.out.1, ← HFF.out.2.1, ← HFF.out.2.2.1, ← HFF.out.2.2.2.1, ← HFF.out.2.2.2.2.1, ← HFF.out.2.2.2.2.2.1, ← HFF.out.2.2.2.2.2.2, HY.out.1, HY.out.2.1, HY.out.2.2]
          have hff := HF.out.1
          simp at hff ⊢
          exact ⟨hff.row, Same.trans HK3.out hff.kept, fun k e => Nat.le_trans HK3.out.size (hff.new k e)⟩
        · -- Export
          subst k1 k2 k3 k4 k5 k6 k7
          go_wp2_with fail
          refine (HN1.out _ _ _ 1 HF.out.1 HF.out.2 (by decide)).mono ?_
          rintro e wn ⟨vn, rfl, hfn, hln⟩
          have HF := hid (And.intro hfn hln)
          obtain ⟨c0, c1, c2, c3, c4, c5, c6, c7⟩ := (HO3.out.kept hfn.kept (fun f => f)).eight
          obtain ⟨g0, g1, g2, g3, g4, g5, g6⟩ := (HBG.out.kept hfn.kept (fun f => f)).seven
          rw [HX.out.1] at c1
          rw [HX.out.2.1] at c5
          rw [HX.out.2.2] at c6
          clear hfn hln
          go_wp2_with fail
          refine (HN2.out _ _ _ 2 HF.out.1 HF.out.2 (by decide)).mono ?_
          rintro e wn ⟨vn, rfl, hfn, hln⟩
          have HF := hid (And.intro hfn hln)
          obtain ⟨c0, c1, c2, c3, c4, c5, c6, c7⟩ := (HO3.out.kept hfn.kept (fun f => f)).eight
          obtain ⟨g0, g1, g2, g3, g4, g5, g6⟩ := (HBG.out.kept hfn.kept (fun f => f)).seven
          rw [HX.out.1] at c1
          rw [HX.out.2.1] at c5
          rw [HX.out.2.2] at c6
          clear hfn hln
          go_wp2_with fail
          refine (HN5.out _ _ _ 3 HF.out.1 HF.out.2 (by decide)).mono ?_
          rintro e wn ⟨vn, rfl, hfn, hln⟩
          have HF := hid (And.intro hfn hln)
          obtain ⟨c0, c1, c2, c3, c4, c5, c6, c7⟩ := (HO3.out.kept hfn.kept (fun f => f)).eight
          obtain ⟨g0, g1, g2, g3, g4, g5, g6⟩ := (HBG.out.kept hfn.kept (fun f => f)).seven
          rw [HX.out.1] at c1
          rw [HX.out.2.1] at c5
          rw [HX.out.2.2] at c6
          clear hfn hln
          go_wp2_with fail
          refine (HN6.out _ _ _ 4 HF.out.1 HF.out.2 (by decide)).mono ?_
          rintro e wn ⟨vn, rfl, hfn, hln⟩
          have HF := hid (And.intro hfn hln)
          obtain ⟨c0, c1, c2, c3, c4, c5, c6, c7⟩ := (HO3.out.kept hfn.kept (fun f => f)).eight
          obtain ⟨g0, g1, g2, g3, g4, g5, g6⟩ := (HBG.out.kept hfn.kept (fun f => f)).seven
          rw [HX.out.1] at c1
          rw [HX.out.2.1] at c5
          rw [HX.out.2.2] at c6
          clear hfn hln
          go_wp2_with fail
          go_ret2
          refine ⟨_, by rw [HE.out]; rfl, ?_⟩
          have hb : pqB q = kn :: layL q.cs (fdQ q.k) := by unfold pqB pbyt; rw [if_pos HE.out, HKN.out.2.1]
          rw [hb, lay_is, ← HFF.out.1, ← HFF.out.2.1, ← HFF.out.2.2.1, ← HFF.out.2.2.2.1, ← HFF.out.2.2.2.2.1, ← HFF.out.2.2.2.2.2.1, ← HFF.out.2.2.2.2.2.2, HY.out.1, HY.out.2.1, HY.out.2.2]
          have hff := HF.out.1
          simp at hff ⊢
          exact ⟨hff.row, Same.trans HK3.out hff.kept, fun k e => Nat.le_trans HK3.out.size (hff.new k e)⟩
        · -- Import
          subst k1 k2 k3 k4 k5 k6 k7
          go_wp2_with fail
          refine (HN1.out _ _ _ 1 HF.out.1 HF.out.2 (by decide)).mono ?_
          rintro e wn ⟨vn, rfl, hfn, hln⟩
          have HF := hid (And.intro hfn hln)
          obtain ⟨c0, c1, c2, c3, c4, c5, c6, c7⟩ := (HO3.out.kept hfn.kept (fun f => f)).eight
          obtain ⟨g0, g1, g2, g3, g4, g5, g6⟩ := (HBG.out.kept hfn.kept (fun f => f)).seven
          rw [HX.out.1] at c1
          rw [HX.out.2.1] at c5
          rw [HX.out.2.2] at c6
          clear hfn hln
          go_wp2_with fail
          refine (HN2.out _ _ _ 2 HF.out.1 HF.out.2 (by decide)).mono ?_
          rintro e wn ⟨vn, rfl, hfn, hln⟩
          have HF := hid (And.intro hfn hln)
          obtain ⟨c0, c1, c2, c3, c4, c5, c6, c7⟩ := (HO3.out.kept hfn.kept (fun f => f)).eight
          obtain ⟨g0, g1, g2, g3, g4, g5, g6⟩ := (HBG.out.kept hfn.kept (fun f => f)).seven
          rw [HX.out.1] at c1
          rw [HX.out.2.1] at c5
          rw [HX.out.2.2] at c6
          clear hfn hln
          go_wp2_with fail
          refine (HN4.out _ _ _ 3 HF.out.1 HF.out.2 (by decide)).mono ?_
          rintro e wn ⟨vn, rfl, hfn, hln⟩
          have HF := hid (And.intro hfn hln)
          obtain ⟨c0, c1, c2, c3, c4, c5, c6, c7⟩ := (HO3.out.kept hfn.kept (fun f => f)).eight
          obtain ⟨g0, g1, g2, g3, g4, g5, g6⟩ := (HBG.out.kept hfn.kept (fun f => f)).seven
          rw [HX.out.1] at c1
          rw [HX.out.2.1] at c5
          rw [HX.out.2.2] at c6
          clear hfn hln
          go_wp2_with fail
          go_ret2
          refine ⟨_, by rw [HE.out]; rfl, ?_⟩
          have hb : pqB q = kn :: layL q.cs (fdQ q.k) := by unfold pqB pbyt; rw [if_pos HE.out, HKN.out.2.1]
          rw [hb, lay_is, ← HFF.out.1, ← HFF.out.2.1, ← HFF.out.2.2.1, ← HFF.out.2.2.2.1, ← HFF.out.2.2.2.2.1, ← HFF.out.2.2.2.2.2.1, ← HFF.out.2.2.2.2.2.2, HY.out.1, HY.out.2.1, HY.out.2.2]
          have hff := HF.out.1
          simp at hff ⊢
          exact ⟨hff.row, Same.trans HK3.out hff.kept, fun k e => Nat.le_trans HK3.out.size (hff.new k e)⟩
        · -- none
          subst k1 k2 k3 k4 k5 k6 k7
          go_wp2_with fail
          go_ret2
          refine ⟨_, by rw [HE.out]; rfl, ?_⟩
          have hb : pqB q = kn :: layL q.cs (fdQ q.k) := by unfold pqB pbyt; rw [if_pos HE.out, HKN.out.2.1]
          rw [hb, lay_is, ← HFF.out.1, ← HFF.out.2.1, ← HFF.out.2.2.1, ← HFF.out.2.2.2.1, ← HFF.out.2.2.2.2.1, ← HFF.out.2.2.2.2.2.1, ← HFF.out.2.2.2.2.2.2, HY.out.1, HY.out.2.1, HY.out.2.2]
          have hff := HF.out.1
          simp at hff ⊢
          exact ⟨hff.row, Same.trans HK3.out hff.kept, fun k e => Nat.le_trans HK3.out.size (hff.new k e)⟩
      all_goals
        go_wp2_with fail
        go_ret2
        rw [HE.out]
        exact putA_none (pqB_none HE.out (by decide)) HK3.out

end Go.Proofs.Ytaefgnakdadgeaa
