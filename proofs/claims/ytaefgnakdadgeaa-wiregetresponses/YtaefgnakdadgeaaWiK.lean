/-
  Layer 19: PutRequest.
-/
import Derived.Test.YtaefgnakdadgeaaWiJ
namespace Go.Proofs.Ytaefgnakdadgeaa
open Go.RowKit

/-- What PutRequest refuses a request for. -/
def perr (q : Rq) : Nat := if okK q.k = false then 191 else if othQ q = true then 1 else wrongL q.cs (fdQ q.k)

/-- A request's bytes. -/
def pbyt (q : Rq) : List Nat := q.k.toNat :: layL q.cs (fdQ q.k)

def pqB (q : Rq) : List Nat := if perr q = 0 then pbyt q else []

theorem fresh_none {w w' : World} (h : Same w w') : Fresh w w' (.slice none 0 0) [] := ⟨World.ownsRow_nil w' 0 5 1, h, fun k e => by cases e⟩

/-- What PutRequest tells. -/
def PutA (w w' : World) (n : Nat) (bs : List Nat) (e : Ending) : Prop := ∃ v, e = .returned (.tuple #[v, .int .i64 (n : Nat)]) ∧ Fresh w w' v bs

theorem wrongL_two (cs : List Cel) (l : List Fd) : wrongL cs l = 0 ∨ wrongL cs l = 1 ∨ wrongL cs l = 2 := by
  unfold wrongL
  split
  · exact .inr (.inl rfl)
  split
  · exact .inr (.inr rfl)
  · exact .inl rfl

set_option maxRecDepth 100000 in
set_option maxHeartbeats 1000000 in
theorem putreq_any (w : World) (q : Rq) : Calls Try.prog 10 #[.agg (rqV q)] w fun e w' => PutA w w' (perr q) (pqB q) e := by
  obtain ⟨W1, hW1⟩ : ∃ W, W = w.alloc (.cells #[.int .i64 q.k, .int .i64 q.x, .string q.a, .string q.e, .string q.d, .int .i64 q.f, .int .i64 q.m, .string q.o] 24) := ⟨_, rfl⟩
  obtain ⟨p, hp⟩ : ∃ b, b = w.heap.size := ⟨_, rfl⟩
  have HK : Hid (Same w W1) := hid (by rw [hW1]; exact (Kept.refl _ w).alloc _)
  have hO : Ob W1 p 24 q.cs := by rw [hW1, hp]; exact Blk.new w (rqV q) _
  have HB := hid hO
  have HIK := iskind19 W1 q.k
  have HOTH := others19 W1 q
  obtain ⟨c0, c1, c2, c3, c4, c5, c6, c7⟩ := hO.eight
  clear hO
  unfold rqV
  cases hk0 : okK q.k with
  | false =>
    have HE : Hid (perr q = 191) := hid (by unfold perr; rw [if_pos hk0])
    rw [hk0] at HIK
    clear hk0
    go_enter Try.func10, Try.ntmps10
    go_upto_region 1 with fail
    rw [← hW1, ← hp]
    clear hW1 hp
    go_wp2_with fail
    refine HIK.mono ?_
    rintro e w2 ⟨rfl, hw2⟩
    subst hw2
    clear HIK
    go_wp2_with fail
    go_ret2
    refine ⟨_, by rw [HE.out]; rfl, ?_⟩
    unfold pqB
    rw [if_neg (by rw [HE.out]; decide)]
    exact fresh_none HK.out
  | true =>
    have HKB : Hid (okK q.k = true) := hk0
    obtain ⟨kn, hkn, hk13⟩ : ∃ kn : Nat, q.k = (kn : Int) ∧ kn ≤ 13 := by
      unfold okK at hk0
      simp only [decide_eq_true_eq] at hk0
      exact ⟨q.k.toNat, by omega, by omega⟩
    have hwr : IntKind.u8.wrap q.k = (kn : Int) := by rw [hkn, IntKind.wrap_u8]; omega
    rw [hk0] at HIK
    clear hk0
    cases ho0 : othQ q with
    | true =>
      have HE : Hid (perr q = 1) := hid (by unfold perr; rw [if_neg (by rw [HKB.out]; decide), if_pos ho0])
      rw [ho0] at HOTH
      clear ho0 hkn hwr hk13
      go_enter Try.func10, Try.ntmps10
      go_upto_region 1 with fail
      rw [← hW1, ← hp]
      clear hW1 hp
      go_wp2_with fail
      refine HIK.mono ?_
      rintro e w2 ⟨rfl, hw2⟩
      subst hw2
      clear HIK
      go_wp2_with fail
      refine HOTH.mono ?_
      rintro e w3 ⟨rfl, hk3⟩
      have HK3 := hid (Same.trans HK.out hk3)
      clear hk3 HOTH
      go_wp2_with fail
      go_ret2
      refine ⟨_, by rw [HE.out]; rfl, ?_⟩
      unfold pqB
      rw [if_neg (by rw [HE.out]; decide)]
      exact fresh_none HK3.out
    | false =>
      have HE : Hid (perr q = wrongL q.cs (fdQ q.k)) := hid (by unfold perr; rw [if_neg (by rw [HKB.out]; decide), if_neg (by rw [ho0]; decide)])
      have HKN : Hid (q.k = (kn : Int) ∧ kn ≤ 13) := hid ⟨hkn, hk13⟩
      rw [ho0] at HOTH
      obtain ⟨R, hR⟩ : ∃ R, R = wrongL q.cs (fdQ q.k) := ⟨_, rfl⟩
      have HR := hid hR
      rw [← hR] at HE
      clear ho0 hkn hk13 hR
      go_enter Try.func10, Try.ntmps10
      go_upto_region 1 with fail
      rw [← hW1, ← hp]
      clear hW1 hp
      go_wp2_with fail
      refine HIK.mono ?_
      rintro e w2 ⟨rfl, hw2⟩
      subst hw2
      clear HIK
      go_wp2_with fail
      refine HOTH.mono ?_
      rintro e w3 ⟨rfl, hk3⟩
      have HK3 := hid (Same.trans HK.out hk3)
      have HB3 : Hid (Ob w3 p 24 q.cs) := hid (HB.out.kept hk3 (fun f => f))
      have HF := reqf_any w3 p q HB3.out
      clear hk3 HOTH c0 c1 c2 c3 c4 c5 c6 c7
      go_wp2_with fail
      refine HF.mono ?_
      rintro e w4 ⟨ao, n, c, rfl, hs, hk4⟩
      have HS := hid hs
      have HK4 := hid (Same.trans HK3.out hk4)
      have HB4 : Hid (Ob w4 p 24 q.cs) := hid (HB3.out.kept hk4 (fun f => f))
      have HW := wrong_any w4 p _ q.cs HB4.out ao n c _ (fdQ q.k) hs (by have := fdQ_len q.k; omega) (fdQ_fits q q.k)
      rw [← HR.out] at HW
      clear hs hk4 HF
      go_wp2_with fail
      refine HW.mono ?_
      rintro e w5 ⟨rfl, hk5⟩
      have HK5 := hid (Same.trans HK4.out hk5)
      have HB5 : Hid (Ob w5 p 24 q.cs) := hid (HB4.out.kept hk5 (fun f => f))
      have HS5 := hid (HS.out.kept (fdE_ok p) hk5 (fun _ _ _ f => f))
      clear hk5 HW
      rcases wrongL_two q.cs (fdQ q.k) with h | h | h
      · have HR0 : Hid (R = 0) := hid (by rw [HR.out, h])
        have hr0 : R = 0 := HR0.out
        subst hr0
        clear h
        obtain ⟨d0, _⟩ := HB5.out.eight
        obtain ⟨W6, hW6⟩ : ∃ W, W = w5.alloc (.cells #[.int .u8 (kn : Nat)] 5) := ⟨_, rfl⟩
        obtain ⟨xb, hxb⟩ : ∃ b, b = w5.heap.size := ⟨_, rfl⟩
        have HFR : Hid (Fresh w W6 (.slice (some ⟨xb, 0, none⟩) 1 1) [kn]) := hid (by rw [hW6, hxb]; exact fresh_lit w w5 HK5.out [kn] 1 rfl (by decide))
        have hk6 : Same w5 W6 := by rw [hW6]; exact (Kept.refl _ w5).alloc _
        have HLY := wlay_any w W6 _ [kn] HFR.out p _ q.cs (HB5.out.kept hk6 (fun f => f)) ao n c _ (fdQ q.k) (HS5.out.kept (fdE_ok p) hk6 (fun _ _ _ f => f)) (fun f hf => ⟨fdQ_fits q _ f hf, wrongL_zero HR.out.symm f hf⟩) (by simp) (by have := fdQ_len q.k; omega)
        clear hk6
        go_wp2_with fail
        rw [← hW6, ← hxb]
        clear hW6 hxb
        refine HLY.mono ?_
        rintro e w7 ⟨v7, rfl, hf7, _⟩
        have HF7 := hid hf7
        clear hf7 HLY
        go_wp2_with fail
        go_ret2
        refine ⟨_, by rw [HE.out]; rfl, ?_⟩
        unfold pqB pbyt
        have hkt : q.k.toNat = kn := by rw [HKN.out.1]; rfl
        rw [if_pos HE.out, hkt]
        exact HF7.out
      · have HR0 : Hid (R = 1) := hid (by rw [HR.out, h])
        have hr0 : R = 1 := HR0.out
        subst hr0
        clear h
        go_wp2_with fail
        go_ret2
        refine ⟨_, by rw [HE.out]; rfl, ?_⟩
        unfold pqB
        rw [if_neg (by rw [HE.out]; decide)]
        exact fresh_none HK5.out
      · have HR0 : Hid (R = 2) := hid (by rw [HR.out, h])
        have hr0 : R = 2 := HR0.out
        subst hr0
        clear h
        go_wp2_with fail
        go_ret2
        refine ⟨_, by rw [HE.out]; rfl, ?_⟩
        unfold pqB
        rw [if_neg (by rw [HE.out]; decide)]
        exact fresh_none HK5.out

end Go.Proofs.Ytaefgnakdadgeaa
