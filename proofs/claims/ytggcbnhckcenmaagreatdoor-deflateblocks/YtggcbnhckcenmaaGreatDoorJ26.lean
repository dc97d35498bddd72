/-
  Of the proof: parts LnShape, LnIdx, InSy, InSt, InCp, InCq, InSm, InHm, InSh.
-/
import Derived.Test.YtggcbnhckcenmaaGreatDoorJ25
import Derived.Test.YtggcbnhckcenmaaGreatDoorJ9
import Derived.Test.YtggcbnhckcenmaaGreatDoorJ3

/-
  The program's within, shape, mayStand, say.
-/
namespace Go.Proofs.YtggcbnhckcenmaaGreatDoor
open Go.RowKit

def inB (n lo hi : Int) : Bool := decide (lo ≤ n) && decide (n ≤ hi)

set_option maxHeartbeats 1000000 in
theorem within_any (w : World) (n lo hi : Int) :
    Calls Tryz.prog 93 #[.int .i64 n, .int .i64 lo, .int .i64 hi] w fun e w' => e = .returned (.bool (inB n lo hi)) ∧ w' = w := by
  go_enter Tryz.func93, Tryz.ntmps93
  by_cases h : lo ≤ n
  · go_wp2_with fail
    go_ret
    exact ⟨by simp only [inB, h, decide_true, Bool.true_and]; rfl, rfl⟩
  · go_wp2_with fail
    go_ret
    have hd : decide (lo ≤ n) = false := by simp; omega
    exact ⟨by simp only [inB, hd, Bool.false_and]; rfl, rfl⟩

set_option maxHeartbeats 1000000 in
theorem shape_any (w : World) (s : Int) :
    Calls Tryz.prog 132 #[.int .i64 s] w fun e w' => e = .returned (.tuple #[.int .i64 (leastM s : Nat), .int .i64 (widthM s : Nat)]) ∧ w' = w := by
  by_cases h16 : s = 16
  · subst h16
    go_enter Tryz.func132, Tryz.ntmps132
    go_wp2_with fail
    go_ret2
    exact ⟨rfl, rfl⟩
  · by_cases h17 : s = 17
    · subst h17
      go_enter Tryz.func132, Tryz.ntmps132
      go_wp2_with fail
      go_ret2
      exact ⟨rfl, rfl⟩
    · by_cases h18 : s = 18
      · subst h18
        go_enter Tryz.func132, Tryz.ntmps132
        go_wp2_with fail
        go_ret2
        exact ⟨rfl, rfl⟩
      · have e16 : (s == 16) = false := by simp; omega
        have e17 : (s == 17) = false := by simp; omega
        have e18 : (s == 18) = false := by simp; omega
        have HE : Hid (leastM s = 1 ∧ widthM s = 0) := hid ⟨by unfold leastM; rw [if_neg h16, if_neg h17, if_neg h18], by unfold widthM; rw [if_neg h16, if_neg h17, if_neg h18]⟩
        clear h16 h17 h18
        go_enter Tryz.func132, Tryz.ntmps132
        go_wp2_with fail
        go_ret2
        exact ⟨by rw [HE.out.1, HE.out.2]; rfl, rfl⟩

theorem pow_le7 (n : Nat) (h : n ≤ 7) : (2 : Nat) ^ n ≤ 128 := by
  have := Nat.pow_le_pow_right (show 0 < 2 by decide) h
  simpa using this

/-- mayStand's answer. -/
def MayR (e : Ending) (s : Int × Int) (said n : Nat) : Prop := ∃ r : Bool, e = .returned (.bool r) ∧ (r = true ↔ mayB s said n)

theorem MayR.no {e : Ending} {s : Int × Int} {said n : Nat} (h : MayR e s said n) (hm : ¬ mayB s said n) : e = .returned (.bool false) := by
  obtain ⟨r, rfl, hr⟩ := h
  cases r with
  | false => rfl
  | true => exact absurd (hr.1 rfl) hm

theorem MayR.yes {e : Ending} {s : Int × Int} {said n : Nat} (h : MayR e s said n) (hm : mayB s said n) : e = .returned (.bool true) := by
  obtain ⟨r, rfl, hr⟩ := h
  rw [hr.2 hm]

set_option maxRecDepth 100000 in
set_option maxHeartbeats 2000000 in
theorem mayStand_any (w : World) (a b : Int) (said n : Nat) (hs : said ≤ 1000000) :
    Calls Tryz.prog 183 #[.agg #[.int .i64 a, .int .i64 b], .int .i64 (said : Nat), .int .i64 (n : Nat)] w fun e w' => MayR e (a, b) said n ∧ Same w w' := by
  have hw7 := widthM_le a
  have hl1 := leastM_le a
  have HSH := shape_any (w.alloc (.cells #[.int .i64 a, .int .i64 b] 171)) a
  obtain ⟨wd, hwd⟩ : ∃ x, x = widthM a := ⟨_, rfl⟩
  obtain ⟨ls, hls⟩ : ∃ x, x = leastM a := ⟨_, rfl⟩
  rw [← hwd] at HSH hw7
  rw [← hls] at HSH hl1
  have HM : Hid (mayB (a, b) said n ↔ (0 ≤ a ∧ a ≤ 18 ∧ 0 ≤ b ∧ b < 2 ^ wd ∧ ¬ (a = 16 ∧ said = 0) ∧ (said + ls : Nat) + b ≤ n)) := hid (by rw [hwd, hls]; exact Iff.rfl)
  clear hwd hls
  have hp7 := pow_le7 wd hw7
  have hp0 : 0 < 2 ^ wd := Nat.two_pow_pos wd
  obtain ⟨pw, hpw⟩ : ∃ x, x = 2 ^ wd := ⟨_, rfl⟩
  obtain ⟨pm, hpm⟩ : ∃ x : Nat, x = pw - 1 := ⟨_, rfl⟩
  rw [← hpw] at hp7 hp0
  have HM2 : Hid (mayB (a, b) said n ↔ (inB a 0 18 = true ∧ inB b 0 (pm : Int) = true ∧ ¬ (a = 16 ∧ said = 0) ∧ (said + ls : Nat) + b ≤ n)) := hid (by
    rw [HM.out]
    have : (2 : Int) ^ wd = (pw : Int) := by rw [hpw]; simp
    rw [this]
    simp only [inB, Bool.and_eq_true, decide_eq_true_eq]
    omega)
  have hshl : wrap64 ((2 : Int) ^ wd) = (pw : Int) := by
    have : (2 : Int) ^ wd = (pw : Int) := by rw [hpw]; simp
    rw [this]; unfold wrap64; omega
  have hsub : (pw : Int) - 1 = (pm : Int) := by omega
  have HW1 := fun q => within_any ((w.alloc (.cells #[.int .i64 a, .int .i64 b] 171)).drewN q) a 0 18
  have HW2 := fun q => within_any ((w.alloc (.cells #[.int .i64 a, .int .i64 b] 171)).drewN q) b 0 (pm : Int)
  clear HM hpw
  have hpm' : pm ≤ 127 := by omega
  clear hpm
  go_enter Tryz.func183, Tryz.ntmps183
  go_wp2_with fail
  refine HSH.mono ?_
  rintro e w1 ⟨rfl, rfl⟩
  clear HSH
  have HK0 : Hid (Same w (w.alloc (.cells #[.int .i64 a, .int .i64 b] 171))) := hid ((Kept.refl _ w).alloc _)
  have cB : (w.alloc (.cells #[.int .i64 a, .int .i64 b] 171)).cell? ⟨w.heap.size, 1, none⟩ = some (.int .i64 b) := by simp
  have cA : (w.alloc (.cells #[.int .i64 a, .int .i64 b] 171)).cell? ⟨w.heap.size, 0, none⟩ = some (.int .i64 a) := by simp
  generalize w.alloc (.cells #[.int .i64 a, .int .i64 b] 171) = W at *
  cases h1 : inB a 0 18 with
  | false =>
    have HE : Hid (¬ mayB (a, b) said n) := hid (fun h => by have := (HM2.out.1 h).1; rw [h1] at this; cases this)
    rw [h1] at HW1
    clear h1
    go_wp2_with fail
    go_quiet ((go_at_call 93; exact Calls.quiet_of_same (HW1 _)))
    go_wp2_with fail
    go_ret
    exact ⟨⟨false, rfl, by simp [HE.out]⟩, HK0.out.drewN _⟩
  | true =>
    rw [h1] at HW1
    cases h2 : inB b 0 (pm : Int) with
    | false =>
      have HE : Hid (¬ mayB (a, b) said n) := hid (fun h => by have := (HM2.out.1 h).2.1; rw [h2] at this; cases this)
      rw [h2] at HW2
      clear h1 h2
      go_wp2_with fail
      go_quiet ((go_at_call 93; first | (with_reducible exact Calls.quiet_of_same (HW1 _)) | (with_reducible exact Calls.quiet_of_same (HW2 _))))
      go_wp2_with fail
      go_ret
      exact ⟨⟨false, rfl, by simp [HE.out]⟩, HK0.out.drewN _⟩
    | true =>
      rw [h2] at HW2
      have hb : 0 ≤ b ∧ b ≤ (pm : Int) := by simpa [inB] using h2
      have HM3 : Hid (mayB (a, b) said n ↔ (¬ (a = 16 ∧ said = 0) ∧ (said + ls : Nat) + b ≤ n)) := hid (by rw [HM2.out, h1, h2]; simp)
      obtain ⟨bn, rfl⟩ : ∃ x : Nat, b = (x : Int) := ⟨b.toNat, by omega⟩
      have hbn : bn ≤ 127 := by omega
      obtain ⟨t, ht⟩ : ∃ t, t = said + ls := ⟨_, rfl⟩
      have htI : (said : Int) + (ls : Int) = (t : Int) := by omega
      have htw : IntKind.i64.wrap (t : Int) = (t : Int) := by rw [IntKind.wrap_i64]; omega
      obtain ⟨u, hu⟩ : ∃ u, u = t + bn := ⟨_, rfl⟩
      have huI : (t : Int) + (bn : Int) = (u : Int) := by omega
      have huw : IntKind.i64.wrap (u : Int) = (u : Int) := by rw [IntKind.wrap_i64]; omega
      have HM4 : Hid (mayB (a, (bn : Int)) said n ↔ (¬ (a = 16 ∧ said = 0) ∧ u ≤ n)) := hid (by
        rw [HM3.out]
        have : ((said + ls : Nat) : Int) + (bn : Int) ≤ (n : Int) ↔ u ≤ n := by omega
        rw [this])
      clear h1 h2 hb HM3 HM2 ht hu
      go_wp2_with fail
      go_quiet ((go_at_call 93; first | (with_reducible exact Calls.quiet_of_same (HW1 _)) | (with_reducible exact Calls.quiet_of_same (HW2 _))))
      by_cases h16 : a = 16
      · subst h16
        by_cases h0 : said = 0
        · have HE : Hid (¬ mayB (16, (bn : Int)) 0 n) := hid (fun h => (HM4.out.1 (by rw [h0]; exact h)).1 ⟨rfl, h0⟩)
          have hsd : ((said : Int) == 0) = true := by simp [h0]
          go_wp2_with fail
          go_ret
          exact ⟨⟨false, rfl, by simp [HE.out]⟩, HK0.out.drewN _⟩
        · have hsd : ((said : Int) == 0) = false := by simp [h0]
          have HE : Hid (mayB (16, (bn : Int)) said n ↔ u ≤ n) := hid (by rw [HM4.out]; simp [h0])
          clear h0
          go_wp2_with fail
          go_ret
          exact ⟨⟨_, rfl, by rw [HE.out]; simp⟩, HK0.out.drewN _⟩
      · have h16' : (a == 16) = false := by simp [h16]
        have HE : Hid (mayB (a, (bn : Int)) said n ↔ u ≤ n) := hid (by rw [HM4.out]; simp [h16])
        clear h16
        go_wp2_with fail
        go_ret
        exact ⟨⟨_, rfl, by rw [HE.out]; simp⟩, HK0.out.drewN _⟩


set_option maxRecDepth 100000 in
set_option maxHeartbeats 2000000 in
/-- say, behind a row of one's own. -/
theorem say_any (w : World) (B : Nat) (v : Value) (l : List Nat) (a b : Int) (n : Nat) (hr : NRow B w v l) (hB : B ≤ w.heap.size) (hl : l.length ≤ 1000000) (hm : mayB (a, b) l.length n) :
    Calls Tryz.prog 184 #[v, .agg #[.int .i64 a, .int .i64 b]] w fun e w' => ∃ v', e = .returned v' ∧ NRow B w' v' (l ++ List.replicate (leastM a + b.toNat) (sayV a l)) ∧ Kept (Over B) w w' := by
  obtain ⟨ao, cap, rfl, hao, _⟩ := hr.shape
  obtain ⟨h1, h2, h3, h4, h5, h6⟩ := hm
  simp only at h1 h2 h3 h4 h5 h6
  have hw7 := widthM_le a
  have hl1 := leastM_le a
  have hp7 := pow_le7 _ hw7
  have hb7 : b < 128 := by
    have : ((2 ^ widthM a : Nat) : Int) = 2 ^ widthM a := by simp
    omega
  obtain ⟨bn, rfl⟩ : ∃ x : Nat, b = (x : Int) := ⟨b.toNat, by omega⟩
  obtain ⟨an, rfl⟩ : ∃ x : Nat, a = (x : Int) := ⟨a.toNat, by omega⟩
  obtain ⟨ls, hls⟩ : ∃ x, x = leastM (an : Int) := ⟨_, rfl⟩
  have HSH := shape_any (w.alloc (.cells #[.int .i64 (an : Int), .int .i64 (bn : Int)] 171)) (an : Int)
  rw [← hls] at HSH hl1 ⊢
  rw [Int.toNat_natCast]
  obtain ⟨k, hk⟩ : ∃ k, k = ls + bn := ⟨_, rfl⟩
  have hkI : (ls : Int) + (bn : Int) = (k : Int) := by omega
  have hkw : IntKind.i64.wrap (k : Int) = (k : Int) := by rw [IntKind.wrap_i64]; omega
  rw [← hk]
  have hk138 : k ≤ 138 := by omega
  obtain ⟨x, hx⟩ : ∃ x, x = sayV (an : Int) l := ⟨_, rfl⟩
  rw [← hx]
  have HR : Hid (NRow B (w.alloc (.cells #[.int .i64 (an : Int), .int .i64 (bn : Int)] 171)) (.slice ao l.length cap) l) := hid (World.ownsRow.alloc hr _)
  have HK0 : Hid (Kept (Over B) w (w.alloc (.cells #[.int .i64 (an : Int), .int .i64 (bn : Int)] 171))) := hid ((Kept.refl _ w).alloc _)
  have cB : (w.alloc (.cells #[.int .i64 (an : Int), .int .i64 (bn : Int)] 171)).cell? ⟨w.heap.size, 1, none⟩ = some (.int .i64 (bn : Int)) := by simp
  have cA : (w.alloc (.cells #[.int .i64 (an : Int), .int .i64 (bn : Int)] 171)).cell? ⟨w.heap.size, 0, none⟩ = some (.int .i64 (an : Int)) := by simp
  have hsz : B ≤ (w.alloc (.cells #[.int .i64 (an : Int), .int .i64 (bn : Int)] 171)).heap.size := by simp; omega
  have HLOOP : ∀ W : World, W = w.alloc (.cells #[.int .i64 (an : Int), .int .i64 (bn : Int)] 171) → True := fun _ _ => trivial
  clear HLOOP
  obtain ⟨L, hL⟩ : ∃ L, L = l.length := ⟨_, rfl⟩
  have HL : Hid (L = l.length) := hL
  have HAO : Hid (l ≠ [] → ∃ g, ao = some ⟨g, 0, none⟩) := hao
  have H5 : Hid (¬ ((an : Int) = 16 ∧ l.length = 0)) := h5
  have HX : Hid (x = sayV (an : Int) l) := hx
  rw [← hL] at HR hl ⊢
  clear hr hls hk hx hL h3 h4 h5 h6 hw7 hp7 hb7 hao h1
  go_enter Tryz.func184, Tryz.ntmps184
  go_wp2_with fail
  refine HSH.mono ?_
  rintro e w1 ⟨rfl, hw1⟩
  subst hw1
  clear HSH
  generalize w.alloc (.cells #[.int .i64 (an : Int), .int .i64 (bn : Int)] 171) = W at *
  by_cases h16 : an = 16
  · subst h16
    have hL0 : 0 < L := by have := HL.out; have := H5.out; omega
    have hl0 : 0 < l.length := by have := HL.out; omega
    obtain ⟨b2, o2, cap2, e2, _, _, c2⟩ := (SrcE.ofRow HR.out).get (l.length - 1) (by omega)
    simp only [Value.slice.injEq] at e2
    obtain ⟨rfl, hxe, rfl⟩ := e2
    clear hxe
    have hle : l[l.length - 1] = x := by rw [HX.out]; simp [sayV, lastN, List.getD, show l.length - 1 < l.length by omega]
    rw [hle, ← HL.out] at c2
    unfold natV at c2
    obtain ⟨m, hm⟩ : ∃ m, m = L - 1 := ⟨_, rfl⟩
    rw [← hm] at c2
    have hmI : (L : Int) - 1 = (m : Int) := by omega
    have hmL : m < L := by omega
    have hwm : IntKind.i64.wrap (m : Int) = (m : Int) := by rw [IntKind.wrap_i64]; omega
    clear hm hle hl0 hL0
    go_wp2_with fail
    go_loopg [0, 32] k (fun q zv zi wr => ∃ (i : Nat), k - i ≤ q ∧ i ≤ k ∧ zi = .int .i64 (i : Nat) ∧ Hid (NRow B wr zv (l ++ List.replicate i x)) ∧ Hid (Kept (Over B) w wr))
    case atStart => exact ⟨0, by omega, by omega, rfl, hid (by simpa using HR.out), HK0⟩
    case round =>
      clear HR HK0 cA cB
      obtain ⟨i, hq, hi, rfl, HV, HK⟩ := hrel
      by_cases hlt : i < k
      · have hsz2 := HK.out.size
        have HLN : Hid ((l ++ List.replicate i x).length + [x].length ≤ 1000000000) := hid (by have := HL.out; simp; omega)
        go_wp2_with (at_builtin; refine wpList_append_e _ natV natV_one B 45 3 (natV 0) 8 Tryz.underlying45 Tryz.infoN rfl (by decide) rfl (.tmp 34) (.tmp 36) rfl u0 (l ++ List.replicate i x) rfl (World.ownsRow.alloc HV.out _) ⟨wr.heap.size, 0, none⟩ 1 1 [x] rfl rfl (cellsAt_new _ _ _) HLN.out (by simp; omega) ?_; intro v5 w5 hr5 hg5)
        have HV5 : Hid (NRow B w5 v5 (l ++ List.replicate (i + 1) x)) := hid (by rw [List.replicate_succ', ← List.append_assoc]; exact hr5)
        have HK5 : Hid (Kept (Over B) w w5) := hid ((HK.out.alloc _).grown hg5 (fun j e => .inl (HV.out.ge e)))
        clear hr5 hg5
        go_wp2_with fail
        go_roundg (gk - 1)
        case measure => omega
        case rel => exact ⟨i + 1, by omega, by omega, by go_num, HV5, HK5⟩
      · have hik : i = k := by omega
        subst hik
        go_wp2_with fail
        go_ret
        exact ⟨_, rfl, HV.out, HK.out⟩
  · have e16 : ((an : Int) == 16) = false := by simp; omega
    by_cases h17 : an = 17
    · subst h17
      have hx0 : x = 0 := by rw [HX.out]; simp [sayV]
      subst hx0
      go_wp2_with fail
      go_loopg [0, 32] k (fun q zv zi wr => ∃ (i : Nat), k - i ≤ q ∧ i ≤ k ∧ zi = .int .i64 (i : Nat) ∧ Hid (NRow B wr zv (l ++ List.replicate i 0)) ∧ Hid (Kept (Over B) w wr))
      case atStart => exact ⟨0, by omega, by omega, rfl, hid (by simpa using HR.out), HK0⟩
      case round =>
        clear HR HK0 cA cB
        obtain ⟨i, hq, hi, rfl, HV, HK⟩ := hrel
        by_cases hlt : i < k
        · have hsz2 := HK.out.size
          have HLN : Hid ((l ++ List.replicate i 0).length + [0].length ≤ 1000000000) := hid (by have := HL.out; simp; omega)
          go_wp2_with (at_builtin; refine wpList_append_e _ natV natV_one B 45 3 (natV 0) 8 Tryz.underlying45 Tryz.infoN rfl (by decide) rfl (.tmp 34) (.tmp 36) rfl u0 (l ++ List.replicate i 0) rfl (World.ownsRow.alloc HV.out _) ⟨wr.heap.size, 0, none⟩ 1 1 [0] rfl rfl (cellsAt_new _ _ _) HLN.out (by simp; omega) ?_; intro v5 w5 hr5 hg5)
          have HV5 : Hid (NRow B w5 v5 (l ++ List.replicate (i + 1) 0)) := hid (by rw [List.replicate_succ', ← List.append_assoc]; exact hr5)
          have HK5 : Hid (Kept (Over B) w w5) := hid ((HK.out.alloc _).grown hg5 (fun j e => .inl (HV.out.ge e)))
          clear hr5 hg5
          go_wp2_with fail
          go_roundg (gk - 1)
          case measure => omega
          case rel => exact ⟨i + 1, by omega, by omega, by go_num, HV5, HK5⟩
        · have hik : i = k := by omega
          subst hik
          go_wp2_with fail
          go_ret
          exact ⟨_, rfl, HV.out, HK.out⟩
    · have e17 : ((an : Int) == 17) = false := by simp; omega
      by_cases h18 : an = 18
      · subst h18
        have hx0 : x = 0 := by rw [HX.out]; simp [sayV]
        subst hx0
        go_wp2_with fail
        go_loopg [0, 32] k (fun q zv zi wr => ∃ (i : Nat), k - i ≤ q ∧ i ≤ k ∧ zi = .int .i64 (i : Nat) ∧ Hid (NRow B wr zv (l ++ List.replicate i 0)) ∧ Hid (Kept (Over B) w wr))
        case atStart => exact ⟨0, by omega, by omega, rfl, hid (by simpa using HR.out), HK0⟩
        case round =>
          clear HR HK0 cA cB
          obtain ⟨i, hq, hi, rfl, HV, HK⟩ := hrel
          by_cases hlt : i < k
          · have hsz2 := HK.out.size
            have HLN : Hid ((l ++ List.replicate i 0).length + [0].length ≤ 1000000000) := hid (by have := HL.out; simp; omega)
            go_wp2_with (at_builtin; refine wpList_append_e _ natV natV_one B 45 3 (natV 0) 8 Tryz.underlying45 Tryz.infoN rfl (by decide) rfl (.tmp 34) (.tmp 36) rfl u0 (l ++ List.replicate i 0) rfl (World.ownsRow.alloc HV.out _) ⟨wr.heap.size, 0, none⟩ 1 1 [0] rfl rfl (cellsAt_new _ _ _) HLN.out (by simp; omega) ?_; intro v5 w5 hr5 hg5)
            have HV5 : Hid (NRow B w5 v5 (l ++ List.replicate (i + 1) 0)) := hid (by rw [List.replicate_succ', ← List.append_assoc]; exact hr5)
            have HK5 : Hid (Kept (Over B) w w5) := hid ((HK.out.alloc _).grown hg5 (fun j e => .inl (HV.out.ge e)))
            clear hr5 hg5
            go_wp2_with fail
            go_roundg (gk - 1)
            case measure => omega
            case rel => exact ⟨i + 1, by omega, by omega, by go_num, HV5, HK5⟩
          · have hik : i = k := by omega
            subst hik
            go_wp2_with fail
            go_ret
            exact ⟨_, rfl, HV.out, HK.out⟩
      · have e18 : ((an : Int) == 18) = false := by simp; omega
        have hx0 : x = an := by rw [HX.out]; unfold sayV; rw [if_neg (by omega), if_neg (by omega)]; simp
        clear h16 h17 h18
        subst hx0
        go_wp2_with fail
        go_loopg [0, 32] k (fun q zv zi wr => ∃ (i : Nat), k - i ≤ q ∧ i ≤ k ∧ zi = .int .i64 (i : Nat) ∧ Hid (NRow B wr zv (l ++ List.replicate i x)) ∧ Hid (Kept (Over B) w wr))
        case atStart => exact ⟨0, by omega, by omega, rfl, hid (by simpa using HR.out), HK0⟩
        case round =>
          clear HR HK0 cA cB
          obtain ⟨i, hq, hi, rfl, HV, HK⟩ := hrel
          by_cases hlt : i < k
          · have hsz2 := HK.out.size
            have HLN : Hid ((l ++ List.replicate i x).length + [x].length ≤ 1000000000) := hid (by have := HL.out; simp; omega)
            go_wp2_with (at_builtin; refine wpList_append_e _ natV natV_one B 45 3 (natV 0) 8 Tryz.underlying45 Tryz.infoN rfl (by decide) rfl (.tmp 34) (.tmp 36) rfl u0 (l ++ List.replicate i x) rfl (World.ownsRow.alloc HV.out _) ⟨wr.heap.size, 0, none⟩ 1 1 [x] rfl rfl (cellsAt_new _ _ _) HLN.out (by simp; omega) ?_; intro v5 w5 hr5 hg5)
            have HV5 : Hid (NRow B w5 v5 (l ++ List.replicate (i + 1) x)) := hid (by rw [List.replicate_succ', ← List.append_assoc]; exact hr5)
            have HK5 : Hid (Kept (Over B) w w5) := hid ((HK.out.alloc _).grown hg5 (fun j e => .inl (HV.out.ge e)))
            clear hr5 hg5
            go_wp2_with fail
            go_roundg (gk - 1)
            case measure => omega
            case rel => exact ⟨i + 1, by omega, by omega, by go_num, HV5, HK5⟩
          · have hik : i = k := by omega
            subst hik
            go_wp2_with fail
            go_ret
            exact ⟨_, rfl, HV.out, HK.out⟩

end Go.Proofs.YtggcbnhckcenmaaGreatDoor

/-
  The program's alike, and whether lengths may be.
-/
namespace Go.Proofs.YtggcbnhckcenmaaGreatDoor
open Go.RowKit

theorem inB_bad (z : Int) : (!inB z 0 15) = badI 0 15 z := by
  unfold inB badI
  by_cases h1 : 0 ≤ z
  · by_cases h2 : z ≤ 15
    · have h3 : ¬ z < 0 := by omega
      have h4 : ¬ 15 < z := by omega
      simp [h1, h2, h3, h4]
    · have h3 : ¬ z < 0 := by omega
      have h4 : 15 < z := by omega
      simp [h1, h2, h3, h4]
  · have h3 : z < 0 := by omega
    simp [h1, h3]

set_option maxHeartbeats 1000000 in
theorem lwrong_any (w : World) (z : Int) :
    Calls Tryz.prog 128 #[.int .i64 z] w fun e w' => e = .returned (.bool (badI 0 15 z)) ∧ w' = w := by
  have HW := within_any w z 0 15
  go_enter Tryz.func128, Tryz.ntmps128
  go_wp2_with fail
  refine HW.mono ?_
  rintro e w1 ⟨rfl, hw1⟩
  subst hw1
  clear HW
  go_wp2_with fail
  go_ret
  exact ⟨by rw [← inB_bad]; rfl, rfl⟩

abbrev lwrongV : Value := .func (.func 128) #[] #[]

set_option maxHeartbeats 1000000 in
theorem lindex_any (w : World) (v : Value) (I : Nat → Prop) (zs : List Int) (hs : SrcE intV w I v zs) (hn : zs.length ≤ 10000000) :
    Calls Tryz.prog 157 #[v, lwrongV] w fun e w' => (∃ z : Int, e = .returned (.int .i64 z) ∧ decide (0 ≤ z) = zs.any (badI 0 15)) ∧ w' = w := by
  obtain ⟨ao, cap, rfl, hx1, hx2⟩ := id hs
  clear hx1 hx2
  have HS : Hid (SrcE intV w I (.slice ao zs.length cap) zs) := hs
  clear hs
  go_enter Tryz.func157, Tryz.ntmps157
  go_wp2_with fail
  go_loopg [8] zs.length (fun k z wr => ∃ i : Nat, zs.length - i ≤ k ∧ i ≤ zs.length ∧ z = .int .i64 (i : Nat) ∧ Hid ((zs.take i).any (badI 0 15) = false) ∧ wr = w)
  case atStart => exact ⟨0, by omega, by omega, rfl, hid (by simp), rfl⟩
  case round =>
    obtain ⟨i, hk, hil, rfl, HF, hw⟩ := hrel
    subst hw
    by_cases hlt : i < zs.length
    · obtain ⟨b, o, cap2, e, _, _, hc⟩ := HS.out.get i hlt
      simp only [Value.slice.injEq] at e
      obtain ⟨rfl, hxe, rfl⟩ := e
      clear hxe
      obtain ⟨x, hx⟩ : ∃ x, x = zs[i] := ⟨_, rfl⟩
      rw [← hx] at hc
      unfold intV at hc
      have HX : Hid (x = zs[i]) := hx
      have HC := lwrong_any wr x
      clear hx
      cases hb : badI 0 15 x with
      | true =>
        rw [hb] at HC
        have HB : Hid (badI 0 15 x = true) := hb
        clear hb
        go_wp2_with fail
        refine HC.mono ?_
        rintro e w2 ⟨rfl, hw2⟩
        subst hw2
        clear HC
        go_wp2_with fail
        go_ret
        refine ⟨⟨_, rfl, ?_⟩, rfl⟩
        have h1 : zs.any (badI 0 15) = true := List.any_eq_true.2 ⟨x, by rw [HX.out]; exact List.getElem_mem _, HB.out⟩
        rw [h1]; simp
      | false =>
        rw [hb] at HC
        have HB : Hid (badI 0 15 x = false) := hb
        clear hb
        go_wp2_with fail
        refine HC.mono ?_
        rintro e w2 ⟨rfl, hw2⟩
        subst hw2
        clear HC
        go_wp2_with fail
        go_roundg (gk - 1)
        case measure => omega
        case rel =>
          refine ⟨i + 1, by omega, by omega, by go_num, hid ?_, rfl⟩
          rw [List.take_succ_eq_append_getElem hlt, List.any_append, HF.out, ← HX.out]
          simp [HB.out]
    · have : i = zs.length := by omega
      subst this
      go_wp2_with fail
      go_ret
      refine ⟨⟨_, rfl, ?_⟩, rfl⟩
      have h := HF.out
      rw [List.take_of_length_le (Nat.le_refl _)] at h
      rw [h]; simp

set_option maxHeartbeats 1000000 in
theorem lcontains_any (w : World) (v : Value) (I : Nat → Prop) (zs : List Int) (hs : SrcE intV w I v zs) (hn : zs.length ≤ 10000000) :
    Calls Tryz.prog 129 #[v, lwrongV] w fun e w' => e = .returned (.bool (!lensOk zs)) ∧ w' = w := by
  have H := lindex_any w v I zs hs hn
  clear hs
  go_enter Tryz.func129, Tryz.ntmps129
  go_wp2_with fail
  refine H.mono ?_
  rintro e w2 ⟨⟨z, rfl, hz⟩, hw⟩
  subst hw
  have HZ : Hid (decide (0 ≤ z) = zs.any (badI 0 15)) := hz
  clear hz H
  go_wp2_with fail
  go_ret
  refine ⟨?_, rfl⟩
  unfold lensOk
  rw [Bool.not_not, ← HZ.out]; rfl

set_option maxHeartbeats 1000000 in
theorem lother_any (w : World) (q b o n cap x y : Nat) (hq : w.cell? ⟨q, 0, none⟩ = some (.slice (some ⟨b, o, none⟩) n cap)) (hn : 0 < n) (hb : w.cell? ⟨b, o, none⟩ = some (.int .i64 (y : Nat))) :
    Calls Tryz.prog 158 #[.int .i64 (x : Nat), .pointer (some ⟨q, 0, none⟩)] w fun e w' => e = .returned (.bool (!decide (x = y))) ∧ w' = w := by
  go_enter Tryz.func158, Tryz.ntmps158
  by_cases h : x = y
  · subst h
    go_wp2_with fail
    go_ret
    exact ⟨by simp, rfl⟩
  · have hne : ((x : Int) == (y : Int)) = false := by simp; omega
    have HH : Hid ((!decide (x = y)) = true ∧ ¬ (x : Int) = (y : Int)) := hid ⟨by simp [h], by omega⟩
    clear h
    go_wp2_with fail
    go_ret
    exact ⟨by rw [HH.out.1]; simp [HH.out.2], rfl⟩

abbrev lotherV (q : Nat) : Value := .func (.func 158) #[] #[.pointer (some ⟨q, 0, none⟩)]

set_option maxHeartbeats 1000000 in
theorem lfirst_any (w : World) (b o cap q y : Nat) (I : Nat → Prop) (ns : List Nat) (hs : SrcE natV w I (.slice (some ⟨b, o, none⟩) ns.length cap) ns) (hn : ns.length ≤ 1000000) (h0 : 0 < ns.length) (hy : ns[0] = y)
    (hq : w.cell? ⟨q, 0, none⟩ = some (.slice (some ⟨b, o, none⟩) ns.length cap)) :
    Calls Tryz.prog 157 #[.slice (some ⟨b, o, none⟩) ns.length cap, lotherV q] w fun e w' => ((e = .returned (.int .i64 (-1)) ∧ ∀ j (_ : j < ns.length), ns[j] = y) ∨ ∃ i, e = .returned (.int .i64 (i : Nat)) ∧ ∃ h : i < ns.length, ns[i] ≠ y ∧ ∀ j (_ : j < ns.length), j < i → ns[j] = y) ∧ w' = w := by
  have c0 : w.cell? ⟨b, o, none⟩ = some (.int .i64 (y : Nat)) := by
    obtain ⟨b', o', cap', e, _, _, c⟩ := hs.get 0 h0
    simp only [Value.slice.injEq, Option.some.injEq, Addr.mk.injEq, and_true] at e
    obtain ⟨⟨rfl, rfl⟩, _, _⟩ := e
    rw [hy] at c
    exact c
  have HS : Hid (SrcE natV w I (.slice (some ⟨b, o, none⟩) ns.length cap) ns) := hs
  clear hs hy
  go_enter Tryz.func157, Tryz.ntmps157
  go_wp2_with fail
  go_loopg [8] ns.length (fun k z wr => ∃ i : Nat, ns.length - i ≤ k ∧ i ≤ ns.length ∧ z = .int .i64 (i : Nat) ∧ Hid (∀ j (_ : j < ns.length), j < i → ns[j] = y) ∧ wr = w)
  case atStart => exact ⟨0, by omega, by omega, rfl, hid (fun j _ h => by omega), rfl⟩
  case round =>
    obtain ⟨i, hk, hil, rfl, HF, hw⟩ := hrel
    subst hw
    by_cases hlt : i < ns.length
    · obtain ⟨b', o', cap2, e, _, _, hc⟩ := HS.out.get i hlt
      simp only [Value.slice.injEq, Option.some.injEq, Addr.mk.injEq, and_true] at e
      obtain ⟨⟨rfl, rfl⟩, hxe, rfl⟩ := e
      clear hxe
      obtain ⟨x, hx⟩ : ∃ x, x = ns[i] := ⟨_, rfl⟩
      rw [← hx] at hc
      unfold natV at hc
      have HX : Hid (x = ns[i]) := hx
      have HC := lother_any wr q b o ns.length cap x y hq h0 c0
      clear hx
      by_cases hb : x = y
      · have HB : Hid (x = y) := hb
        have hd : (!decide (x = y)) = false := by simp [hb]
        rw [hd] at HC
        clear hb hd
        go_wp2_with fail
        refine HC.mono ?_
        rintro e w2 ⟨rfl, hw2⟩
        subst hw2
        clear HC
        go_wp2_with fail
        go_roundg (gk - 1)
        case measure => omega
        case rel =>
          refine ⟨i + 1, by omega, by omega, by go_num, hid (fun j hj hji => ?_), rfl⟩
          by_cases e : j = i
          · subst e; rw [← HX.out, HB.out]
          · exact HF.out j hj (by omega)
      · have HB : Hid (x ≠ y) := hb
        have hd : (!decide (x = y)) = true := by simp [hb]
        rw [hd] at HC
        clear hb hd
        go_wp2_with fail
        refine HC.mono ?_
        rintro e w2 ⟨rfl, hw2⟩
        subst hw2
        clear HC
        go_wp2_with fail
        go_ret
        exact ⟨.inr ⟨i, rfl, hlt, by rw [← HX.out]; exact HB.out, HF.out⟩, rfl⟩
    · have : i = ns.length := by omega
      subst this
      go_wp2_with fail
      go_ret
      exact ⟨.inl ⟨rfl, fun j hj => HF.out j hj hj⟩, rfl⟩

theorem front_of {y : Nat} {r : List Nat} {n : Nat} (h : (n = (y :: r).length ∧ ∀ j (_ : j < (y :: r).length), (y :: r)[j] = y) ∨ ∃ h : n < (y :: r).length, (y :: r)[n] ≠ y ∧ ∀ j (_ : j < (y :: r).length), j < n → (y :: r)[j] = y) : n = 1 + frontN y r := by
  rcases h with ⟨h1, h2⟩ | ⟨h1, h2, h3⟩
  · have := frontN_is y r r.length (fun j hj _ => by have := h2 (j + 1) (by simpa using hj); rw [List.getElem_cons_succ] at this; exact this) (Nat.le_refl _) (fun h => by omega)
    rw [this, h1]
    simp; omega
  · cases n with
    | zero => simp at h2
    | succ n =>
      have := frontN_is y r n (fun j hj hjn => by have := h3 (j + 1) (by simpa using hj) (by omega); rw [List.getElem_cons_succ] at this; exact this) (by simp at h1; omega) (fun _ => by simpa using h2)
      rw [this]
      omega

set_option maxHeartbeats 1000000 in
theorem alike_any (w : World) (b o cap : Nat) (I : Nat → Prop) (y : Nat) (r : List Nat) (hs : SrcE natV w I (.slice (some ⟨b, o, none⟩) (y :: r).length cap) (y :: r)) (hn : (y :: r).length ≤ 1000000) :
    Calls Tryz.prog 130 #[.slice (some ⟨b, o, none⟩) (y :: r).length cap] w fun e w' => e = .returned (.int .i64 ((1 + frontN y r : Nat) : Int)) ∧ Same w w' := by
  obtain ⟨W, hW⟩ : ∃ W, W = w.alloc (.cells #[.slice (some ⟨b, o, none⟩) (y :: r).length cap] 45) := ⟨_, rfl⟩
  have HK : Hid (Same w W) := hid (by rw [hW]; exact (Kept.refl _ w).alloc _)
  have hq : W.cell? ⟨w.heap.size, 0, none⟩ = some (.slice (some ⟨b, o, none⟩) (y :: r).length cap) := by rw [hW]; simp
  have HC := lfirst_any W b o cap w.heap.size y I (y :: r) (hs.same HK.out) hn (by simp) rfl hq
  have HC2 : Calls Tryz.prog 157 #[.slice (some ⟨b, o, none⟩) (y :: r).length cap, lotherV w.heap.size] W fun e w' => ((e = .returned (.int .i64 (-1)) ∧ (y :: r).length = 1 + frontN y r) ∨ ∃ i : Nat, e = .returned (.int .i64 (i : Nat)) ∧ i = 1 + frontN y r) ∧ w' = W := HC.mono (by
    rintro e w' ⟨h, hw⟩
    refine ⟨?_, hw⟩
    rcases h with ⟨h1, h2⟩ | ⟨i, h1, h2, h3, h4⟩
    · exact .inl ⟨h1, front_of (.inl ⟨rfl, h2⟩)⟩
    · exact .inr ⟨i, h1, front_of (.inr ⟨h2, h3, h4⟩)⟩)
  clear HC
  obtain ⟨L, hL⟩ : ∃ L, L = (y :: r).length := ⟨_, rfl⟩
  rw [← hL] at HC2 hq hW ⊢
  obtain ⟨f, hf⟩ : ∃ f, f = 1 + frontN y r := ⟨_, rfl⟩
  rw [← hf] at HC2 ⊢
  clear hs hL hn hf
  go_enter Tryz.func130, Tryz.ntmps130
  go_wp2_with fail
  rw [← hW]
  clear hW
  go_wp2_with fail
  refine HC2.mono ?_
  rintro e w2 ⟨h, hw2⟩
  subst hw2
  clear HC2
  rcases h with ⟨rfl, hLf⟩ | ⟨i, rfl, hif⟩
  · subst hLf
    go_wp2_with fail
    go_ret
    exact ⟨rfl, HK.out⟩
  · subst hif
    go_wp2_with fail
    go_ret
    exact ⟨rfl, HK.out⟩

end Go.Proofs.YtggcbnhckcenmaaGreatDoor

/-
  The reference's layer 5: the next symbol; stored blocks.
-/
namespace Go.Proofs.YtggcbnhckcenmaaGreatDoor
open Go.RowKit

/-- The error that a symbol's reading tells. -/
def syE (g wrong : Nat) : Nat := if g = 10 then 55 else if g = 32 then wrong else 0

theorem RNext.small {ns t : List Nat} {is k g : Nat} (h : RNext ns t is k g) : g = 0 ∨ g = 10 ∨ g = 32 := by
  rcases h with ⟨h, _⟩ | ⟨h, _⟩ | ⟨h, _⟩ <;> omega
theorem RNext.fits {ns t : List Nat} {is k g : Nat} (h : RNext ns t is k g) : k ≤ t.length := by
  rcases h with ⟨_, _, hf, hk, _⟩ | ⟨_, _, hk, _⟩ | ⟨_, _, hk, _⟩
  · have h1 := hf.2.length_le
    rw [rowOf_length] at h1
    omega
  · omega
  · omega
theorem RNext.sym_lt {ns t : List Nat} {is k g : Nat} (h : RNext ns t is k g) (hn : 0 < ns.length) : is < ns.length := by
  rcases h with ⟨_, hi, _⟩ | ⟨_, hi, _⟩ | ⟨_, hi, _⟩ <;> omega

/-- sym's answer. -/
def SymA (h : Nat) (v : Value) (vo : Value) (most : Nat) (ns ls : List Nat) (c e wrong : Nat) (r : Ending) (w' : World) : Prop :=
  if e ≠ 0 then r = .returned (.int .i64 0) ∧ RdB w' h v c vo most e
  else r = .returned (.int .i64 ((nextF ns (ls.drop c)).1 : Nat)) ∧ RdB w' h v (c + (nextF ns (ls.drop c)).2.1) vo most (syE (nextF ns (ls.drop c)).2.2 wrong)

set_option maxRecDepth 100000 in
set_option maxHeartbeats 4000000 in
theorem isym_any (w w0 : World) (h : Nat) (v : Value) (I : Nat → Prop) (ls : List Nat) (c : Nat) (vo : Value) (most e wrong go L : Nat) (ns : List Nat) (rs : List (Option Addr × Nat × Nat)) (hH : RdB w h v c vo most e) (hs : Src w I v ls) (hc : c ≤ ls.length) (hlen : ls.length ≤ 100000000)
    (hR : RW w0 w go L ns (fun s => key ns s ≠ 0) rs) (hL : L = ns.length) (hl288 : L ≤ 288) (h15 : ∀ s, key ns s ≤ 15) :
    Calls Tryz.prog 136 #[.pointer (some ⟨h, 0, none⟩), .slice (some ⟨go, 0, none⟩) L L, .int .i64 (wrong : Nat)] w fun r w' => SymA h v vo most ns ls c e wrong r w' ∧ Kept (· = h) w w' := by
  by_cases he : e = 0
  · subst he
    obtain ⟨ao, cap, rfl, hsa⟩ := id hs
    clear hsa
    have HH : Hid (RdB w h (.slice ao ls.length cap) c vo most 0) := hH
    have HS : Hid (Src w I (.slice ao ls.length cap) ls) := hs
    have HR : Hid (RW w0 w go L ns (fun s => key ns s ≠ 0) rs) := hR
    have HA : Hid (L = ns.length ∧ ∀ s, key ns s ≤ 15) := ⟨hL, h15⟩
    obtain ⟨M, hM⟩ : ∃ M, M = ls.length := ⟨_, rfl⟩
    rw [← hM] at HH HS hc hlen ⊢
    have HM : Hid (M = ls.length) := hM
    obtain ⟨is, k, g, hnf⟩ : ∃ is k g, nextF ns (ls.drop c) = (is, k, g) := ⟨_, _, _, rfl⟩
    have HNF : Hid (nextF ns (ls.drop c) = (is, k, g)) := hnf
    have hrn := nextF_is ns (ls.drop c)
    rw [hnf] at hrn
    simp only at hrn
    have HRN : Hid (RNext ns (ls.drop c) is k g) := hrn
    have hkle : c + k ≤ M := by
      have := hrn.fits
      rw [List.length_drop] at this
      omega
    have hg3 := hrn.small
    clear hH hs hR hL h15 hM hnf hrn
    have c0 := HH.out.cell 0
    have c1 := HH.out.cell 1
    have c4 := HH.out.cell 4
    simp at c0 c1 c4
    have HNX := rnext_any w.drew w0 go L ns rs (.slice ao M cap) I ls c (HR.out.kept (F := fun _ => False) ((Kept.refl _ w).drew) (fun _ _ f => f) (fun f => f) (fun _ _ _ _ _ f => f)) HA.out.1 hl288 HA.out.2 (HS.out.kept ((Kept.refl (fun _ => False) w).drew) (fun _ _ _ f => f)) (by have := HM.out; omega) (by have := HM.out; omega)
    have HHX : Hid (Calls Tryz.prog 161 #[.slice (some ⟨go, 0, none⟩) L L, .slice ao M cap, .int .i64 (c : Nat)] w.drew fun e w' => e = .returned (.tuple #[.int .i64 (is : Nat), .int .i64 (k : Nat), .int .i64 (g : Nat)]) ∧ Same w w') := hid (HNX.mono (by
      rintro e w' ⟨⟨is2, k2, g2, rfl, hr2⟩, hk⟩
      obtain ⟨rfl, rfl, rfl⟩ := hr2.one HRN.out
      exact ⟨rfl, ⟨hk.os, hk.tape, hk.output, hk.size, hk.block⟩⟩))
    clear HNX
    obtain ⟨ck, hck⟩ : ∃ ck, ck = c + k := ⟨_, rfl⟩
    have hckI : (c : Int) + (k : Int) = (ck : Int) := by omega
    have HCK : Hid (ck = c + k) := hck
    clear hck
    go_enter Tryz.func136, Tryz.ntmps136
    go_wp2_with fail
    go_region_with (go_at_call 161; refine HHX.out.mono ?_; rintro e w4 ⟨rfl, hk4⟩)
    all_goals
      have HK4 : Hid (Same w w4) := hk4
      have HH4 : Hid (RdB w4 h (.slice ao M cap) c vo most 0) := hid (HH.out.kept hk4 (fun f => f))
      have d1 := HH4.out.cell 1
      have d4 := HH4.out.cell 4
      have g1 := HH4.out.frozen 1
      have g4 := HH4.out.frozen 4
      simp at d1 d4
      have HKW : Hid (Kept (· = h) w w4) := hid (Kept.mono hk4 (fun _ _ f => f.elim))
      clear hk4 c0 c1 c4
      have hA : ∀ e5, e5 = syE g wrong → ∀ wF, RdB wF h (.slice ao M cap) ck vo most e5 → Kept (· = h) w wF → SymA h (.slice ao M cap) vo most ns ls c 0 wrong (.returned (.int .i64 (is : Nat))) wF ∧ Kept (· = h) w wF := by
        intro e5 h5 wF hb hk
        refine ⟨?_, hk⟩
        unfold SymA
        rw [if_neg (by simp), HNF.out]
        simp only
        rw [← HCK.out, ← h5]
        exact ⟨trivial, hb⟩
      have HAA : Hid (∀ e5, e5 = syE g wrong → ∀ wF, RdB wF h (.slice ao M cap) ck vo most e5 → Kept (· = h) w wF → SymA h (.slice ao M cap) vo most ns ls c 0 wrong (.returned (.int .i64 (is : Nat))) wF ∧ Kept (· = h) w wF) := hA
      clear hA
      by_cases hg0 : g = 0
      · subst hg0
        go_wp2_with fail
        go_ret
        refine HAA.out 0 rfl _ ?_ (HKW.out.setCell ⟨h, 1, none⟩ _ (.inl rfl))
        have hb := HH4.out.set 1 (.int .i64 (ck : Nat))
        simp at hb
        exact hb
      · by_cases hg1 : g = 10
        · subst hg1
          go_wp2_with fail
          go_ret
          refine HAA.out 55 rfl _ ?_ ((HKW.out.setCell ⟨h, 4, none⟩ _ (.inl rfl)).setCell ⟨h, 1, none⟩ _ (.inl rfl))
          have hb := (HH4.out.set 4 (.int .i64 55)).set 1 (.int .i64 (ck : Nat))
          simp at hb
          exact hb
        · have hg2 : g = 32 := by omega
          subst hg2
          go_wp2_with fail
          go_ret
          refine HAA.out wrong rfl _ ?_ ((HKW.out.setCell ⟨h, 4, none⟩ _ (.inl rfl)).setCell ⟨h, 1, none⟩ _ (.inl rfl))
          have hb := (HH4.out.set 4 (.int .i64 (wrong : Nat))).set 1 (.int .i64 (ck : Nat))
          simp at hb
          exact hb
  · have hed : ((e : Int) != 0) = true := by simp; omega
    have HE : Hid (e ≠ 0) := he
    have HH : Hid (RdB w h v c vo most e) := hH
    have c4 := hH.cell 4
    simp at c4
    clear he hR hs hH
    go_enter Tryz.func136, Tryz.ntmps136
    go_wp2_with fail
    go_ret
    refine ⟨?_, Kept.refl _ _⟩
    unfold SymA
    rw [if_pos HE.out]
    exact ⟨rfl, HH.out⟩

/-- The rows of a list lie in G. -/
structure RowsIn (w0 : World) (G : Nat → Prop) (go : Nat) (ns : List Nat) (rs : List (Option Addr × Nat × Nat)) : Prop where
  low : ∀ k, k < w0.heap.size → G k
  at' : G go
  own : ∀ s (hs : s < rs.length), key ns s ≠ 0 → ∀ k, (slV rs[s]).ownBlock = some k → G k

theorem RW.inn {w0 w' w2 : World} {G : Nat → Prop} {go n : Nat} {ns : List Nat} {rs : List (Option Addr × Nat × Nat)} (hr : RW w0 w' go n ns (fun s => key ns s ≠ 0) rs) (hi : RowsIn w0 G go ns rs) (hk : KG G w' w2) : RW w0 w2 go n ns (fun s => key ns s ≠ 0) rs :=
  hr.kept hk (fun k hlt f => f (hi.low k hlt)) (fun f => f hi.at') (fun s hs hp k e f => f (hi.own s hs hp k e))

theorem sy_stuck {ns ls : List Nat} {s : S5} {wrong : Nat} (h : s.e ≠ 0) : sy ns ls s wrong = (0, s) := by unfold sy; rw [if_pos h]

theorem sym5 (w w0 : World) (I G : Nat → Prop) (h : Nat) (v : Value) (ls : List Nat) (most : Nat) (s : S5) (wrong go L : Nat) (ns : List Nat) (rs : List (Option Addr × Nat × Nat)) (hz : Sz ls most) (hr : RX w I G h v ls most s)
    (hR : RW w0 w go L ns (fun s => key ns s ≠ 0) rs) (hL : L = ns.length) (hl288 : L ≤ 288) (h15 : ∀ s, key ns s ≤ 15) :
    Calls Tryz.prog 136 #[.pointer (some ⟨h, 0, none⟩), .slice (some ⟨go, 0, none⟩) L L, .int .i64 (wrong : Nat)] w fun r w' => r = .returned (.int .i64 ((sy ns ls s wrong).1 : Nat)) ∧ RX w' I G h v ls most (sy ns ls s wrong).2 ∧ KG G w w' := by
  obtain ⟨c, vo, r⟩ := hr
  refine (isym_any w w0 h v I ls c vo most s.e wrong go L ns rs r.blk r.src r.le (by have := hz.len; omega) hR hL hl288 h15).mono ?_
  rintro x w' ⟨hA, hk⟩
  unfold SymA at hA
  obtain ⟨sc, so, se⟩ := s
  by_cases he : se = 0
  · subst he
    have hc : c = sc := r.pl rfl
    subst hc
    rw [if_neg (by simp)] at hA
    obtain ⟨rfl, hb⟩ := hA
    have hrn := (nextF_is ns (ls.drop c)).fits
    rw [List.length_drop] at hrn
    have hle := r.le
    have e1 : sy ns ls ⟨c, so, 0⟩ wrong = ((nextF ns (ls.drop c)).1, ⟨c + (nextF ns (ls.drop c)).2.1, so, syE (nextF ns (ls.drop c)).2.2 wrong⟩) := by
      unfold sy; rw [if_neg (by simp)]; rfl
    rw [e1]
    exact ⟨rfl, ⟨_, _, r.turn hk hb (fun _ => rfl) (by omega)⟩, r.kg hk⟩
  · rw [if_pos he] at hA
    obtain ⟨rfl, hb⟩ := hA
    rw [sy_stuck he]
    exact ⟨rfl, ⟨_, _, r.turn hk hb (fun e => absurd e he) r.le⟩, r.kg hk⟩

end Go.Proofs.YtggcbnhckcenmaaGreatDoor

/-
  The reference's layer 5: stored blocks, copies.
-/
namespace Go.Proofs.YtggcbnhckcenmaaGreatDoor
open Go.RowKit

/-- What a state shows: its error's cell. -/
theorem RX.err {w : World} {I G : Nat → Prop} {h : Nat} {v : Value} {ls : List Nat} {most : Nat} {s : S5} (r : RX w I G h v ls most s) : w.cell? ⟨h, 4, none⟩ = some (.int .i64 (s.e : Nat)) ∧ w.frozen? ⟨h, 4, none⟩ = false := by
  obtain ⟨c, vo, r⟩ := r
  have c4 := r.blk.cell 4
  simp at c4
  exact ⟨c4, r.blk.frozen 4⟩

/-- An error is set. -/
theorem RX.wrong {w : World} {I G : Nat → Prop} {h : Nat} {v : Value} {ls : List Nat} {most : Nat} {s : S5} (r : RX w I G h v ls most s) (x : Nat) (hx : x ≠ 0) : RX (w.setCell ⟨h, 4, none⟩ (.int .i64 (x : Nat))) I G h v ls most { s with e := x } ∧ KG G w (w.setCell ⟨h, 4, none⟩ (.int .i64 (x : Nat))) := by
  obtain ⟨c, vo, r⟩ := r
  have hk : Kept (· = h) w (w.setCell ⟨h, 4, none⟩ (.int .i64 (x : Nat))) := (Kept.refl (· = h) w).setCell ⟨h, 4, none⟩ _ (.inl rfl)
  have hb := r.blk.set 4 (.int .i64 (x : Nat))
  simp at hb
  exact ⟨⟨c, vo, r.turn hk hb (fun e => absurd e hx) r.le⟩, r.kg hk⟩

theorem ly_e (most : Nat) (s : S5) (b : Nat) : (ly most s b).c = s.c := by
  unfold ly; split
  · rfl
  · split <;> rfl

theorem stB_zero (ls : List Nat) (most : Nat) (s : S5) : stB ls most 0 s = s := rfl
theorem stB_stuck (ls : List Nat) (most k : Nat) (s : S5) (h : s.e ≠ 0) : stB ls most k s = s := by
  cases k with
  | zero => rfl
  | succ k => simp only [stB]; rw [if_pos h]
theorem stB_go (ls : List Nat) (most k : Nat) (s : S5) (h : s.e = 0) : stB ls most (k + 1) s = stB ls most k (ly most (tk ls s 8).2 (tk ls s 8).1) := by
  simp only [stB]; rw [if_neg (by simp [h])]

set_option maxRecDepth 100000 in
set_option maxHeartbeats 4000000 in
theorem stored5_any (w : World) (I G : Nat → Prop) (h : Nat) (v : Value) (ls : List Nat) (most : Nat) (s : S5) (hz : Sz ls most) (h8 : ls.length % 8 = 0) (he : s.e = 0) (hr : RX w I G h v ls most s) :
    Calls Tryz.prog 100 #[.pointer (some ⟨h, 0, none⟩)] w fun r w' => (∃ u, r = .returned u) ∧ RX w' I G h v ls most (stored5 ls most s) ∧ KG G w w' := by
  obtain ⟨sc, so, e⟩ := s
  simp only at he
  subst he
  obtain ⟨c, vo, r⟩ := hr
  have hcs : c = sc := r.pl rfl
  subst hcs
  have HR : Hid (RS w I G h v ls most ⟨c, so, 0⟩ c vo) := r
  have HZ : Hid (Sz ls most) := hz
  have hle := r.le
  have hlen := hz.len
  obtain ⟨M, hM⟩ : ∃ M, M = ls.length := ⟨_, rfl⟩
  rw [← hM] at hle hlen h8
  have HM : Hid (M = ls.length) := hM
  clear r hz hM
  obtain ⟨a, ha⟩ : ∃ a, a = (c + 7) / 8 * 8 := ⟨_, rfl⟩
  have HE : Hid (stored5 ls most ⟨c, so, 0⟩ = stB ls most (tk ls ⟨a, so, 0⟩ 16).1 (if (tk ls (tk ls ⟨a, so, 0⟩ 16).2 16).2.e = 0 ∧ (tk ls ⟨a, so, 0⟩ 16).1 + (tk ls (tk ls ⟨a, so, 0⟩ 16).2 16).1 ≠ 65535 then { (tk ls (tk ls ⟨a, so, 0⟩ 16).2 16).2 with e := 51 } else (tk ls (tk ls ⟨a, so, 0⟩ 16).2 16).2)) := hid (by rw [ha]; rfl)
  go_enter Tryz.func100, Tryz.ntmps100
  go_wp2_with fail
  go_loopg [] 8 (fun q wr => ∃ (i : Nat), c ≤ i ∧ i ≤ a ∧ a - i ≤ q ∧ Hid (RS wr I G h v ls most ⟨i, so, 0⟩ i vo) ∧ Hid (KG G w wr))
  case atStart => exact ⟨c, by omega, by omega, by omega, HR, Kept.refl _ _⟩
  case round =>
    obtain ⟨i, hi0, hi, hq, HRr, HKr⟩ := hrel
    have k1 := HRr.out.blk.cell 1
    have f1 := HRr.out.blk.frozen 1
    simp at k1
    by_cases hlt : i % 8 = 0
    · have hia : i = a := by omega
      subst hia
      have T1 := take5 wr I G h v ls most ⟨i, so, 0⟩ 16 HZ.out (by decide) ⟨_, _, HRr.out⟩
      have hx1 := tk_lt ls HZ.out.bit ⟨i, so, 0⟩ 16
      obtain ⟨n, hn⟩ : ∃ n, n = (tk ls ⟨i, so, 0⟩ 16).1 := ⟨_, rfl⟩
      obtain ⟨s2, hs2⟩ : ∃ s2, s2 = (tk ls ⟨i, so, 0⟩ 16).2 := ⟨_, rfl⟩
      rw [← hn] at T1 hx1 HE
      rw [← hs2] at T1 HE
      have hn16 : n < 65536 := hx1
      clear hn hs2 hx1
      go_wp2_with fail
      refine T1.mono ?_
      rintro e1 w1 ⟨rfl, hr1, hk1⟩
      have HK1 : Hid (KG G w w1) := hid (HKr.out.trans hk1)
      have T2 := take5 w1 I G h v ls most s2 16 HZ.out (by decide) hr1
      have hx2 := tk_lt ls HZ.out.bit s2 16
      obtain ⟨m, hm⟩ : ∃ m, m = (tk ls s2 16).1 := ⟨_, rfl⟩
      obtain ⟨s3, hs3⟩ : ∃ s3, s3 = (tk ls s2 16).2 := ⟨_, rfl⟩
      rw [← hm] at T2 hx2 HE
      rw [← hs3] at T2 HE
      have hm16 : m < 65536 := hx2
      clear hm hs3 hx2 hr1 hk1 T1 HRr HKr k1 f1
      go_wp2_with fail
      refine T2.mono ?_
      rintro e2 w2 ⟨rfl, hr2, hk2⟩
      have HK2 : Hid (KG G w w2) := hid (HK1.out.trans hk2)
      have HR2 : Hid (RX w2 I G h v ls most s3) := hr2
      obtain ⟨k4, f4⟩ := hr2.err
      clear hr2 hk2 T2
      -- the rest: bytes that are read and laid
      by_cases hs30 : s3.e = 0
      · by_cases hnm : n + m = 65535
        · have hs4 : (if s3.e = 0 ∧ n + m ≠ 65535 then { s3 with e := 51 } else s3 : S5) = s3 := by rw [if_neg (fun h => h.2 hnm)]
          rw [hs4] at HE
          rw [hs30] at k4
          have hnmd : (((n : Int) + (m : Int)) != 65535) = false := by simp; omega
          clear hs4
          go_wp2_with fail
          go_loopg [4] (n + 1) (fun q zi wr => ∃ (j : Nat) (sj : S5), n - j < q ∧ j ≤ n ∧ zi = .int .i64 (j : Nat) ∧ Hid (RX wr I G h v ls most sj) ∧ Hid (KG G w wr) ∧ Hid (stB ls most n s3 = stB ls most (n - j) sj))
          case atStart => exact ⟨0, s3, by omega, by omega, rfl, HR2, HK2, hid rfl⟩
          case round =>
            obtain ⟨j, sj, hq, hj, rfl, HRj, HKj, HEj⟩ := hrel
            obtain ⟨k4, f4⟩ := HRj.out.err
            by_cases hlt2 : j < n
            · by_cases hsj : sj.e = 0
              · have HS : Hid (stB ls most (n - j) sj = stB ls most (n - (j + 1)) (ly most (tk ls sj 8).2 (tk ls sj 8).1)) := hid (by rw [show n - j = (n - (j + 1)) + 1 by omega, stB_go _ _ _ _ hsj])
                have T3 := take5 wr I G h v ls most sj 8 HZ.out (by decide) HRj.out
                have hx := tk_lt ls HZ.out.bit sj 8
                obtain ⟨x, hx'⟩ : ∃ x, x = (tk ls sj 8).1 := ⟨_, rfl⟩
                obtain ⟨s5, hs5⟩ : ∃ s5, s5 = (tk ls sj 8).2 := ⟨_, rfl⟩
                rw [← hx'] at T3 hx HS
                rw [← hs5] at T3 HS
                have hx256 : x < 256 := hx
                rw [hsj] at k4
                clear hx hx' hs5
                go_wp2_with fail
                refine T3.mono ?_
                rintro e5 w5 ⟨rfl, hr5, hk5⟩
                have L1 := lay5 w5 I G h v ls most s5 x HZ.out hx256 hr5
                have HK5 : Hid (KG G w w5) := hid (HKj.out.trans hk5)
                clear hr5 hk5 T3
                go_wp2_with fail
                refine L1.mono ?_
                rintro e6 w6 ⟨⟨u, rfl⟩, hr6, hk6⟩
                have HR6 : Hid (RX w6 I G h v ls most (ly most s5 x)) := hr6
                have HK6 : Hid (KG G w w6) := hid (HK5.out.trans hk6)
                clear hr6 hk6 L1
                go_wp2_with fail
                go_roundg (gk - 1)
                case measure => omega
                case rel => exact ⟨j + 1, _, by omega, by omega, by go_num, HR6, HK6, hid (by rw [HEj.out, HS.out])⟩
              · obtain ⟨e3, he3⟩ : ∃ e3, e3 = sj.e := ⟨_, rfl⟩
                have HF : Hid (stB ls most n s3 = sj) := hid (by rw [HEj.out, stB_stuck _ _ _ _ hsj])
                rw [← he3] at hsj k4
                have hed : ((e3 : Int) == 0) = false := by simp; omega
                clear he3
                go_wp2_with fail
                go_end0
                rw [HE.out, HF.out]
                exact ⟨⟨_, rfl⟩, HRj.out, HKj.out⟩
            · have hjn : n - j = 0 := by omega
              have HF : Hid (stB ls most n s3 = sj) := hid (by rw [HEj.out, hjn, stB_zero])
              have hdj : decide (j < n) = false := by simp; omega
              clear hjn
              go_wp2_with fail
              go_end0
              rw [HE.out, HF.out]
              exact ⟨⟨_, rfl⟩, HRj.out, HKj.out⟩
        · have hs4 : (if s3.e = 0 ∧ n + m ≠ 65535 then { s3 with e := 51 } else s3 : S5) = { s3 with e := 51 } := by rw [if_pos ⟨hs30, hnm⟩]
          rw [hs4, stB_stuck _ _ _ _ (by simp)] at HE
          have hW := HR2.out.wrong 51 (by decide)
          have HW1 : Hid (RX (w2.setCell ⟨h, 4, none⟩ (.int .i64 51)) I G h v ls most { s3 with e := 51 }) := hid hW.1
          have HW2 : Hid (KG G w (w2.setCell ⟨h, 4, none⟩ (.int .i64 51))) := hid (HK2.out.trans hW.2)
          rw [hs30] at k4
          have hnmd : (((n : Int) + (m : Int)) != 65535) = true := by simp; omega
          clear hs4 hW
          go_wp2_with fail
          go_loopg [4] 1 (fun q zi wr => zi = .int .i64 0 ∧ wr = w2.setCell ⟨h, 4, none⟩ (.int .i64 51))
          case atStart => exact ⟨rfl, rfl⟩
          case round =>
            obtain ⟨rfl, rfl⟩ := hrel
            obtain ⟨k4, _⟩ := HW1.out.err
            simp only at k4
            go_wp2_with fail
            all_goals
              go_end0
              rw [HE.out]
              exact ⟨⟨_, rfl⟩, HW1.out, HW2.out⟩
      · have hs4 : (if s3.e = 0 ∧ n + m ≠ 65535 then { s3 with e := 51 } else s3 : S5) = s3 := by rw [if_neg (fun h => hs30 h.1)]
        rw [hs4, stB_stuck _ _ _ _ hs30] at HE
        obtain ⟨e3, he3⟩ : ∃ e3, e3 = s3.e := ⟨_, rfl⟩
        rw [← he3] at hs30 k4
        have hed : ((e3 : Int) == 0) = false := by simp; omega
        clear hs4 he3
        go_wp2_with fail
        go_loopg [4] 1 (fun q zi wr => zi = .int .i64 0 ∧ wr = w2)
        case atStart => exact ⟨rfl, rfl⟩
        case round =>
          obtain ⟨rfl, rfl⟩ := hrel
          go_wp2_with fail
          all_goals
            go_end0
            rw [HE.out]
            exact ⟨⟨_, rfl⟩, HR2.out, HK2.out⟩
    · have hi1M : i + 1 ≤ M := by omega
      have HX : Hid (RS (wr.setCell ⟨h, 1, none⟩ (.int .i64 ((i : Int) + 1))) I G h v ls most ⟨i + 1, so, 0⟩ (i + 1) vo ∧ KG G w (wr.setCell ⟨h, 1, none⟩ (.int .i64 ((i : Int) + 1)))) := hid (by
        have hk : Kept (· = h) wr (wr.setCell ⟨h, 1, none⟩ (.int .i64 ((i : Int) + 1))) := (Kept.refl (· = h) wr).setCell ⟨h, 1, none⟩ _ (.inl rfl)
        have hb := HRr.out.blk.set 1 (.int .i64 ((i : Int) + 1))
        simp at hb
        exact ⟨HRr.out.turn hk hb (fun _ => rfl) (by have := HM.out; omega), HKr.out.trans (HRr.out.kg hk)⟩)
      go_wp2_with fail
      go_roundg (gk - 1)
      case measure => omega
      case rel => exact ⟨i + 1, by omega, by omega, by omega, HX.out.1, HX.out.2⟩

end Go.Proofs.YtggcbnhckcenmaaGreatDoor

/-
  The reference's layer 5: copies.
-/
namespace Go.Proofs.YtggcbnhckcenmaaGreatDoor
open Go.RowKit

theorem RX.drew {w : World} {I G : Nat → Prop} {h : Nat} {v : Value} {ls : List Nat} {most : Nat} {s : S5} (r : RX w I G h v ls most s) : RX w.drew I G h v ls most s := by
  obtain ⟨c, vo, r⟩ := r
  exact ⟨c, vo, r.blk, r.row, r.ne, r.gh, r.go, r.lt, r.src, r.ig, r.pl, r.le, r.ol, r.by'⟩

theorem cp5_zero (most far : Nat) (s : S5) : cp5 most far 0 s = s := rfl
theorem cp5_stuck (most far k : Nat) (s : S5) (h : s.e ≠ 0) : cp5 most far k s = s := by
  cases k with
  | zero => rfl
  | succ k => simp only [cp5]; rw [if_pos h]
theorem cp5_go (most far k : Nat) (s : S5) (h : s.e = 0) : cp5 most far (k + 1) s = cp5 most far k (ly most s (s.out.getD (s.out.length - far) 0)) := by
  simp only [cp5]; rw [if_neg (by simp [h])]

theorem ly_out (most : Nat) (s : S5) (b : Nat) : s.out.length ≤ (ly most s b).out.length := by
  unfold ly
  split
  · exact Nat.le_refl _
  · split
    · exact Nat.le_refl _
    · simp

theorem tk_out (ls : List Nat) (s : S5) (n : Nat) : (tk ls s n).2.out = s.out := by
  unfold tk
  split
  · rfl
  · split <;> rfl

theorem lbase_le (y : Nat) (hy : 257 ≤ y) (hy2 : y ≤ 285) : lbase y ≤ 3 + 32 * (y - 257) := by
  induction y with
  | zero => omega
  | succ y ih =>
    by_cases h : 257 ≤ y
    · rw [lbase_succ y h]
      have h1 := ih h (by omega)
      have h2 : 2 ^ xlen y ≤ 32 := Nat.le_trans (Nat.pow_le_pow_right (by omega) (xlen_le y (by omega))) (by decide)
      omega
    · have e : y = 256 := by omega
      subst e
      decide
theorem dbase_le (y : Nat) (hy2 : y ≤ 29) : 1 ≤ dbase y ∧ dbase y ≤ 1 + 8192 * y := by
  induction y with
  | zero => decide
  | succ y ih =>
    rw [dbase_succ y]
    have h0 := Nat.two_pow_pos (xdist y)
    have h1 := ih (by omega)
    have h2 : 2 ^ xdist y ≤ 8192 := Nat.le_trans (Nat.pow_le_pow_right (by omega) (xdist_le y (by omega))) (by decide)
    omega

theorem len5_le (ls : List Nat) (hb : ∀ b ∈ ls, b < 2) (s : S5) (y : Nat) (hy : 257 ≤ y) (hy2 : y ≤ 285) : (len5 ls s y).1 ≤ 2000 := by
  unfold len5
  split
  · simp only; omega
  · have h1 := tk_lt ls hb s (xlen y)
    have h2 : 2 ^ xlen y ≤ 32 := Nat.le_trans (Nat.pow_le_pow_right (by omega) (xlen_le y (by omega))) (by decide)
    have h3 := lbase_le y hy hy2
    simp only
    omega
theorem dist5_le (ls : List Nat) (hb : ∀ b ∈ ls, b < 2) (s : S5) (y : Nat) (hy2 : y ≤ 29) : 1 ≤ (dist5 ls s y).1 ∧ (dist5 ls s y).1 ≤ 1000000 := by
  unfold dist5
  have h1 := tk_lt ls hb s (xdist y)
  have h2 : 2 ^ xdist y ≤ 8192 := Nat.le_trans (Nat.pow_le_pow_right (by omega) (xdist_le y (by omega))) (by decide)
  have h3 := dbase_le y hy2
  simp only
  omega

/-- What was laid can be read. -/
theorem RX.outs {w : World} {I G : Nat → Prop} {h : Nat} {v : Value} {ls : List Nat} {most : Nat} {s : S5} (r : RX w I G h v ls most s) : s.out.length ≤ most ∧ ∃ ao cap, w.cell? ⟨h, 2, none⟩ = some (.slice ao s.out.length cap) ∧ s.out.length ≤ cap ∧ (s.out ≠ [] → ∃ g, ao = some ⟨g, 0, none⟩ ∧ ∀ j (hj : j < s.out.length), w.cell? ⟨g, j, none⟩ = some (.int .u8 (s.out[j] : Nat)) ∧ s.out[j] < 256) := by
  obtain ⟨c, vo, r⟩ := r
  obtain ⟨ao, cap, hv, hn, _, hcap, _⟩ := RowE.shape (enc := byteV) (xs := s.out) r.row
  subst hv
  have c2 := r.blk.cell 2
  simp at c2
  refine ⟨r.ol, ao, cap, c2, hcap, fun hne => ?_⟩
  obtain ⟨g, rfl⟩ := hn hne
  exact ⟨g, rfl, fun j hj => ⟨Row.cell r.row j hj, r.by' _ (List.getElem_mem hj)⟩⟩

theorem copies5_far (ls : List Nat) (most : Nat) (dist : List Nat) (s : S5) (y : Nat) (h : y ≤ 285) (n : Nat) (s1 s2 s3 s4 : S5) (d : Nat) (e1 : len5 ls s y = (n, s1)) (e2 : s2 = if s1.e = 0 ∧ usedB dist = false then { s1 with e := 53 } else s1) (e3 : sy dist ls s2 53 = (d, s3)) (e4 : s4 = if s3.e = 0 ∧ 29 < d then { s3 with e := 53 } else s3) :
    copies5 ls most dist s y = if s4.e ≠ 0 then s4 else cp5 most (dist5 ls s4 d).1 n (if (dist5 ls s4 d).2.e = 0 ∧ (dist5 ls s4 d).2.out.length < (dist5 ls s4 d).1 then { (dist5 ls s4 d).2 with e := 54 } else (dist5 ls s4 d).2) := by
  unfold copies5
  rw [if_neg (by omega)]
  simp only
  rw [e1]
  simp only
  rw [← e2, e3]
  simp only
  rw [← e4]

end Go.Proofs.YtggcbnhckcenmaaGreatDoor

/-
  The reference's layer 5: copies, walked.
-/
namespace Go.Proofs.YtggcbnhckcenmaaGreatDoor
open Go.RowKit

set_option maxRecDepth 100000 in
set_option maxHeartbeats 8000000 in
theorem copies5_any (w w0 : World) (I G J : Nat → Prop) (h : Nat) (v : Value) (ls : List Nat) (most : Nat) (s : S5) (y : Nat) (vd : Value) (dist : List Nat) (go : Nat) (rs : List (Option Addr × Nat × Nat)) (hz : Sz ls most) (hy : 257 ≤ y) (hy3 : y ≤ 1000) (hr : RX w I G h v ls most s)
    (hd : SrcE natV w J vd dist) (hJ : ∀ k, J k → G k) (hR : RW w0 w go dist.length dist (fun s => key dist s ≠ 0) rs) (hI : RowsIn w0 G go dist rs) (hl288 : dist.length ≤ 288) (h15 : ∀ s, key dist s ≤ 15) :
    Calls Tryz.prog 137 #[.pointer (some ⟨h, 0, none⟩), .int .i64 (y : Nat), vd, .slice (some ⟨go, 0, none⟩) dist.length dist.length] w fun r w' => (∃ u, r = .returned u) ∧ RX w' I G h v ls most (copies5 ls most dist s y) ∧ KG G w w' := by
  have HR : Hid (RX w I G h v ls most s) := hr
  have HZ : Hid (Sz ls most) := hz
  have HD : Hid (SrcE natV w J vd dist ∧ ∀ k, J k → G k) := ⟨hd, hJ⟩
  have HW : Hid (RW w0 w go dist.length dist (fun s => key dist s ≠ 0) rs) := hR
  have HI : Hid (RowsIn w0 G go dist rs) := hI
  have HA : Hid (dist.length ≤ 288 ∧ ∀ s, key dist s ≤ 15) := ⟨hl288, h15⟩
  obtain ⟨k4, f4⟩ := hr.err
  have hmo := hz.mo
  clear hr hz hd hJ hR hI h15
  by_cases hy2 : 285 < y
  · have HE : Hid (copies5 ls most dist s y = { s with e := 53 }) := hid (by unfold copies5; rw [if_pos hy2])
    go_enter Tryz.func137, Tryz.ntmps137
    go_wp2_with fail
    refine bodyPost_ret (results_none rfl _ _ _) rfl ?_
    rw [HE.out]
    have hW := HR.out.wrong 53 (by decide)
    exact ⟨⟨_, rfl⟩, hW.1, hW.2⟩
  · have hyd : decide (285 < y) = false := by simp; omega
    have hy285 : y ≤ 285 := by omega
    have HY : Hid (y ≤ 285) := hy285
    have T1 := length5 w I G h v ls most s y HZ.out hy hy285 HR.out
    have hn2 := len5_le ls HZ.out.bit s y hy hy285
    obtain ⟨n, s1, e1⟩ : ∃ n s1, len5 ls s y = (n, s1) := ⟨_, _, rfl⟩
    rw [e1] at T1 hn2
    simp only at hn2
    have E1 : Hid (len5 ls s y = (n, s1)) := e1
    clear e1 k4 f4
    go_enter Tryz.func137, Tryz.ntmps137
    go_wp2_with fail
    refine T1.mono ?_
    rintro r1 w1 ⟨rfl, hr1, hk1⟩
    have HR1 : Hid (RX w1 I G h v ls most s1) := hr1
    have HK1 : Hid (KG G w w1) := hk1
    have HD1 : Hid (SrcE natV w1 J vd dist) := hid (HD.out.1.kept hk1 (fun k hj _ f => f (HD.out.2 k hj)))
    have HW1 : Hid (RW w0 w1 go dist.length dist (fun s => key dist s ≠ 0) rs) := hid (HW.out.inn HI.out hk1)
    obtain ⟨k4, f4⟩ := hr1.err
    clear hr1 hk1 T1 HR
    by_cases hs1 : s1.e = 0
    · obtain ⟨U, hU⟩ : ∃ U, U = usedB dist := ⟨_, rfl⟩
      have U1 := used5 w1 vd J dist HD1.out (by have := HA.out.1; omega)
      rw [← hU] at U1
      have HU : Hid (U = usedB dist) := hU
      have HS1 : Hid (s1.e = 0) := hs1
      rw [hs1] at k4
      clear hU hs1
      cases U with
      | false =>
        have hW := HR1.out.wrong 53 (by decide)
        have HX1 : Hid (RX (w1.setCell ⟨h, 4, none⟩ (.int .i64 53)) I G h v ls most { s1 with e := 53 }) := hid hW.1
        have HX2 : Hid (KG G w (w1.setCell ⟨h, 4, none⟩ (.int .i64 53))) := hid (HK1.out.trans hW.2)
        have HX3 : Hid (RW w0 (w1.setCell ⟨h, 4, none⟩ (.int .i64 53)) go dist.length dist (fun s => key dist s ≠ 0) rs) := hid (HW1.out.inn HI.out hW.2)
        have Y1 := sym5 (w1.setCell ⟨h, 4, none⟩ (.int .i64 53)) w0 I G h v ls most { s1 with e := 53 } 53 go dist.length dist rs HZ.out HX1.out HX3.out rfl HA.out.1 HA.out.2
        rw [sy_stuck (by simp)] at Y1
        have HE : Hid (copies5 ls most dist s y = { s1 with e := 53 }) := hid (by
          rw [copies5_far ls most dist s y HY.out n s1 { s1 with e := 53 } { s1 with e := 53 } { s1 with e := 53 } 0 E1.out (by rw [if_pos ⟨HS1.out, HU.out.symm⟩]) (sy_stuck (by simp)) (by rw [if_neg (fun h => by have := h.1; simp at this)])]
          rw [if_pos (by simp)])
        clear hW
        go_wp2_with fail
        refine U1.mono ?_
        rintro r2 wx ⟨rfl, hwx⟩
        subst hwx
        go_wp2_with fail
        refine Y1.mono ?_
        rintro r3 w3 ⟨rfl, hr3, hk3⟩
        obtain ⟨k4', f4'⟩ := hr3.err
        have HR3 : Hid (RX w3 I G h v ls most { s1 with e := 53 }) := hr3
        have HK3 : Hid (KG G w w3) := hid (HX2.out.trans hk3)
        simp only at k4'
        clear hr3 hk3 Y1
        go_wp2_with fail
        refine bodyPost_ret (results_none rfl _ _ _) rfl ?_
        rw [HE.out]
        exact ⟨⟨_, rfl⟩, HR3.out, HK3.out⟩
      | true =>
        have Y1 := sym5 w1 w0 I G h v ls most s1 53 go dist.length dist rs HZ.out HR1.out HW1.out rfl HA.out.1 HA.out.2
        obtain ⟨d, s3, e3⟩ : ∃ d s3, sy dist ls s1 53 = (d, s3) := ⟨_, _, rfl⟩
        rw [e3] at Y1
        have E3 : Hid (sy dist ls s1 53 = (d, s3)) := e3
        have hd288 : d ≤ 288 := by
          have h1 := HA.out.1
          unfold sy at e3
          split at e3
          · simp at e3; omega
          · simp only [Prod.mk.injEq] at e3
            obtain ⟨rfl, _⟩ := e3
            rcases nextF_is dist (ls.drop s1.c) with ⟨_, hi, _⟩ | ⟨_, hi, _⟩ | ⟨_, hi, _⟩ <;> omega
        have HF : Hid (∀ s4 : S5, s4 = (if s3.e = 0 ∧ 29 < d then { s3 with e := 53 } else s3) → copies5 ls most dist s y = if s4.e ≠ 0 then s4 else cp5 most (dist5 ls s4 d).1 n (if (dist5 ls s4 d).2.e = 0 ∧ (dist5 ls s4 d).2.out.length < (dist5 ls s4 d).1 then { (dist5 ls s4 d).2 with e := 54 } else (dist5 ls s4 d).2)) := hid (fun s4 h4 => copies5_far ls most dist s y HY.out n s1 s1 s3 s4 d E1.out (by rw [if_neg (fun h => by have := h.2; rw [← HU.out] at this; cases this)]) E3.out h4)
        clear e3
        go_wp2_with fail
        refine U1.mono ?_
        rintro r2 wx ⟨rfl, hwx⟩
        subst hwx
        go_wp2_with fail
        refine Y1.mono ?_
        rintro r3 w3 ⟨rfl, hr3, hk3⟩
        obtain ⟨k4', f4'⟩ := hr3.err
        have HR3 : Hid (RX w3 I G h v ls most s3) := hr3
        have HK3 : Hid (KG G w w3) := hid (HK1.out.trans hk3)
        clear hr3 hk3 Y1 U1 k4 f4
        by_cases hs3 : s3.e = 0
        · have HS3 : Hid (s3.e = 0) := hs3
          rw [hs3] at k4'
          clear hs3
          by_cases hd29 : 29 < d
          · have HE : Hid (copies5 ls most dist s y = { s3 with e := 53 }) := hid (by rw [HF.out { s3 with e := 53 } (by rw [if_pos ⟨HS3.out, hd29⟩]), if_pos (by simp)])
            have hW := HR3.out.wrong 53 (by decide)
            obtain ⟨k5, f5⟩ := hW.1.err
            have HX1 : Hid (RX (w3.setCell ⟨h, 4, none⟩ (.int .i64 53)) I G h v ls most { s3 with e := 53 }) := hid hW.1
            have HX2 : Hid (KG G w (w3.setCell ⟨h, 4, none⟩ (.int .i64 53))) := hid (HK3.out.trans hW.2)
            simp only at k5
            clear hW
            go_wp2_with fail
            refine bodyPost_ret (results_none rfl _ _ _) rfl ?_
            rw [HE.out]
            exact ⟨⟨_, rfl⟩, HX1.out, HX2.out⟩
          · have hdd : decide (29 < d) = false := by simp; omega
            have hd29' : d ≤ 29 := by omega
            have T5 := distance5 w3 I G h v ls most s3 d HZ.out (by omega) HR3.out
            obtain ⟨far, s5, e5⟩ : ∃ far s5, dist5 ls s3 d = (far, s5) := ⟨_, _, rfl⟩
            have hfar := dist5_le ls HZ.out.bit s3 d (by omega)
            rw [e5] at T5 hfar
            simp only at hfar
            have HF2 : Hid (copies5 ls most dist s y = cp5 most far n (if s5.e = 0 ∧ s5.out.length < far then { s5 with e := 54 } else s5)) := hid (by rw [HF.out s3 (by rw [if_neg (fun h => hd29 h.2)]), if_neg (by have := HS3.out; simp [this]), e5])
            obtain ⟨hf1, hf2⟩ := hfar
            clear e5 hd29 HF
            go_wp2_with fail
            refine T5.mono ?_
            rintro r5 w5 ⟨rfl, hr5, hk5⟩
            obtain ⟨k4, f4⟩ := hr5.err
            obtain ⟨hol, ao, cap, k2, hcap, hcells⟩ := hr5.outs
            have HR5 : Hid (RX w5 I G h v ls most s5) := hr5
            have HK5 : Hid (KG G w w5) := hid (HK3.out.trans hk5)
            clear hr5 hk5 T5 k4' f4' hcells HR3 HK3
            obtain ⟨L, hL⟩ : ∃ L, L = s5.out.length := ⟨_, rfl⟩
            rw [← hL] at k2 hol hcap
            by_cases hs5 : s5.e = 0
            · rw [hs5] at k4
              by_cases hlf : L < far
              · have HE : Hid (copies5 ls most dist s y = { s5 with e := 54 }) := hid (by rw [HF2.out, if_pos ⟨hs5, by omega⟩, cp5_stuck _ _ _ _ (by simp)])
                have hW := HR5.out.wrong 54 (by decide)
                obtain ⟨k5, f5⟩ := hW.1.err
                have HX1 : Hid (RX (w5.setCell ⟨h, 4, none⟩ (.int .i64 54)) I G h v ls most { s5 with e := 54 }) := hid hW.1
                have HX2 : Hid (KG G w (w5.setCell ⟨h, 4, none⟩ (.int .i64 54))) := hid (HK5.out.trans hW.2)
                simp only at k5
                clear hW hL hs5
                go_wp2_with fail
                go_loopg [11] 1 (fun q zi wr => zi = .int .i64 0 ∧ wr = w5.setCell ⟨h, 4, none⟩ (.int .i64 54))
                case atStart => exact ⟨rfl, rfl⟩
                case round =>
                  obtain ⟨rfl, rfl⟩ := hrel
                  go_wp2_with fail
                  all_goals
                    go_end0
                    rw [HE.out]
                    exact ⟨⟨_, rfl⟩, HX1.out, HX2.out⟩
              · have HE : Hid (copies5 ls most dist s y = cp5 most far n s5) := hid (by rw [HF2.out, if_neg (fun h => by omega)])
                have HLL : Hid (far ≤ s5.out.length) := hid (by omega)
                have hlfd : decide (L < far) = false := by simp; omega
                clear hL hs5 HF2
                go_wp2_with fail
                go_loopg [11] (n + 1) (fun q zi wr => ∃ (j : Nat) (sj : S5), n - j < q ∧ j ≤ n ∧ zi = .int .i64 (j : Nat) ∧ Hid (RX wr I G h v ls most sj) ∧ Hid (KG G w wr) ∧ Hid (cp5 most far n s5 = cp5 most far (n - j) sj ∧ far ≤ sj.out.length))
                case atStart => exact ⟨0, s5, by omega, by omega, rfl, HR5, HK5, hid ⟨rfl, HLL.out⟩⟩
                case round =>
                  obtain ⟨j, sj, hq, hj, rfl, HRj, HKj, HEj⟩ := hrel
                  obtain ⟨k4, f4⟩ := HRj.out.err
                  by_cases hlt2 : j < n
                  · by_cases hsj : sj.e = 0
                    · have hfl := HEj.out.2
                      have HS : Hid (cp5 most far (n - j) sj = cp5 most far (n - (j + 1)) (ly most sj (sj.out.getD (sj.out.length - far) 0)) ∧ far ≤ (ly most sj (sj.out.getD (sj.out.length - far) 0)).out.length) := hid ⟨by rw [show n - j = (n - (j + 1)) + 1 by omega, cp5_go _ _ _ _ hsj], Nat.le_trans hfl (ly_out _ _ _)⟩
                      obtain ⟨hol, ao, cap, k2, hcap, hcells⟩ := HRj.out.outs
                      have hne : sj.out ≠ [] := by intro e; rw [e] at hfl; simp at hfl; omega
                      obtain ⟨g, rfl, hg⟩ := hcells hne
                      obtain ⟨p, hp⟩ : ∃ p, p = sj.out.length - far := ⟨_, rfl⟩
                      have hpl : p < sj.out.length := by omega
                      obtain ⟨cx, hb256⟩ := hg p hpl
                      have hgd : sj.out.getD (sj.out.length - far) 0 = sj.out[p] := by rw [← hp]; simp [List.getD, hpl]
                      rw [hgd] at HS
                      obtain ⟨b, hb⟩ : ∃ b, b = sj.out[p] := ⟨_, rfl⟩
                      rw [← hb] at HS cx hb256
                      obtain ⟨Lj, hLj⟩ : ∃ Lj, Lj = sj.out.length := ⟨_, rfl⟩
                      rw [← hLj] at k2 hcap hpl hol hp hfl
                      have hpI : (Lj : Int) - (far : Int) = (p : Int) := by omega
                      have hwp : IntKind.i64.wrap (p : Int) = (p : Int) := by rw [IntKind.wrap_i64]; omega
                      have L1 := lay5 wr.drew I G h v ls most sj b HZ.out hb256 HRj.out.drew
                      have HL1 : Hid (Calls Tryz.prog 134 #[.pointer (some ⟨h, 0, none⟩), .int .u8 (b : Nat)] wr.drew fun r w' => (∃ u, r = .returned u) ∧ RX w' I G h v ls most (ly most sj b) ∧ KG G wr.drew w') := L1
                      rw [hsj] at k4
                      clear hb hg hcells hLj hp hne hgd L1 hfl
                      go_wp2_with fail
                      go_region_with (go_at_call 134; refine HL1.out.mono ?_; rintro r6 w6 ⟨⟨u, rfl⟩, hr6, hk6⟩)
                      all_goals
                        have HR6 : Hid (RX w6 I G h v ls most (ly most sj b)) := hr6
                        have HK6 : Hid (KG G w w6) := hid (KG.trans HKj.out.drew hk6)
                        clear hr6 hk6
                        go_wp2_with fail
                        go_roundg (gk - 1)
                        case measure => omega
                        case rel => exact ⟨j + 1, _, by omega, by omega, by go_num, HR6, HK6, hid ⟨by rw [HEj.out.1, HS.out.1], HS.out.2⟩⟩
                    · obtain ⟨e7, he7⟩ : ∃ e7, e7 = sj.e := ⟨_, rfl⟩
                      have HFF : Hid (cp5 most far n s5 = sj) := hid (by rw [HEj.out.1, cp5_stuck _ _ _ _ hsj])
                      rw [← he7] at hsj k4
                      have hed : ((e7 : Int) == 0) = false := by simp; omega
                      clear he7
                      go_wp2_with fail
                      go_end0
                      rw [HE.out, HFF.out]
                      exact ⟨⟨_, rfl⟩, HRj.out, HKj.out⟩
                  · have hjn : n - j = 0 := by omega
                    have HFF : Hid (cp5 most far n s5 = sj) := hid (by rw [HEj.out.1, hjn, cp5_zero])
                    have hdj : decide (j < n) = false := by simp; omega
                    clear hjn
                    go_wp2_with fail
                    go_end0
                    rw [HE.out, HFF.out]
                    exact ⟨⟨_, rfl⟩, HRj.out, HKj.out⟩
            · have HE : Hid (copies5 ls most dist s y = s5) := hid (by rw [HF2.out, if_neg (fun h => hs5 h.1), cp5_stuck _ _ _ _ hs5])
              obtain ⟨e7, he7⟩ : ∃ e7, e7 = s5.e := ⟨_, rfl⟩
              rw [← he7] at hs5 k4
              have hed : ((e7 : Int) == 0) = false := by simp; omega
              clear he7 hL
              go_wp2_with fail
              go_loopg [11] 1 (fun q zi wr => zi = .int .i64 0 ∧ wr = w5)
              case atStart => exact ⟨rfl, rfl⟩
              case round =>
                obtain ⟨rfl, rfl⟩ := hrel
                go_wp2_with fail
                all_goals
                  go_end0
                  rw [HE.out]
                  exact ⟨⟨_, rfl⟩, HR5.out, HK5.out⟩
        · have HE : Hid (copies5 ls most dist s y = s3) := hid (by rw [HF.out s3 (by rw [if_neg (fun h => hs3 h.1)]), if_pos hs3])
          obtain ⟨e7, he7⟩ : ∃ e7, e7 = s3.e := ⟨_, rfl⟩
          rw [← he7] at hs3 k4'
          have hed : ((e7 : Int) == 0) = false := by simp; omega
          have hed2 : ((e7 : Int) != 0) = true := by simp; omega
          clear he7
          go_wp2_with fail
          refine bodyPost_ret (results_none rfl _ _ _) rfl ?_
          rw [HE.out]
          exact ⟨⟨_, rfl⟩, HR3.out, HK3.out⟩
    · have Y1 := sym5 w1 w0 I G h v ls most s1 53 go dist.length dist rs HZ.out HR1.out HW1.out rfl HA.out.1 HA.out.2
      rw [sy_stuck hs1] at Y1
      have HE : Hid (copies5 ls most dist s y = s1) := hid (by
        rw [copies5_far ls most dist s y HY.out n s1 s1 s1 s1 0 E1.out (by rw [if_neg (fun h => hs1 h.1)]) (sy_stuck hs1) (by rw [if_neg (fun h => hs1 h.1)])]
        rw [if_pos hs1])
      obtain ⟨e7, he7⟩ : ∃ e7, e7 = s1.e := ⟨_, rfl⟩
      have HE7 : Hid (e7 = s1.e) := he7
      rw [← he7] at hs1 k4
      have hed : ((e7 : Int) == 0) = false := by simp; omega
      have hed2 : ((e7 : Int) != 0) = true := by simp; omega
      clear he7
      go_wp2_with fail
      refine Y1.mono ?_
      rintro r3 w3 ⟨rfl, hr3, hk3⟩
      obtain ⟨k4', f4'⟩ := hr3.err
      have HR3 : Hid (RX w3 I G h v ls most s1) := hr3
      have HK3 : Hid (KG G w w3) := hid (HK1.out.trans hk3)
      rw [← HE7.out] at k4'
      clear hr3 hk3 Y1
      go_wp2_with fail
      refine bodyPost_ret (results_none rfl _ _ _) rfl ?_
      rw [HE.out]
      exact ⟨⟨_, rfl⟩, HR3.out, HK3.out⟩

end Go.Proofs.YtggcbnhckcenmaaGreatDoor

/-
  The reference's layer 5: a block's symbols.
-/
namespace Go.Proofs.YtggcbnhckcenmaaGreatDoor
open Go.RowKit

theorem tk_c (ls : List Nat) (s : S5) (n : Nat) : s.c ≤ (tk ls s n).2.c := by
  unfold tk
  split
  · exact Nat.le_refl _
  · split
    · exact Nat.le_refl _
    · simp only; omega
theorem sy_c (ns ls : List Nat) (s : S5) (wrong : Nat) : s.c ≤ (sy ns ls s wrong).2.c := by
  unfold sy
  split
  · exact Nat.le_refl _
  · simp only; omega
theorem ly_c (most : Nat) (s : S5) (b : Nat) : (ly most s b).c = s.c := ly_e most s b
theorem cp5_c (most far n : Nat) (s : S5) : (cp5 most far n s).c = s.c := by
  induction n generalizing s with
  | zero => rfl
  | succ n ih =>
    simp only [cp5]
    split
    · rfl
    · rw [ih, ly_c]
theorem len5_c (ls : List Nat) (s : S5) (y : Nat) : s.c ≤ (len5 ls s y).2.c := by
  unfold len5
  split
  · exact Nat.le_refl _
  · exact tk_c ls s _
theorem dist5_c (ls : List Nat) (s : S5) (y : Nat) : s.c ≤ (dist5 ls s y).2.c := tk_c ls s _
theorem if_c {p : Prop} [Decidable p] (s : S5) (x : Nat) : (if p then { s with e := x } else s : S5).c = s.c := by split <;> rfl

theorem copies5_c (ls : List Nat) (most : Nat) (dist : List Nat) (s : S5) (y : Nat) : s.c ≤ (copies5 ls most dist s y).c := by
  by_cases h : 285 < y
  · unfold copies5; rw [if_pos h]; exact Nat.le_refl _
  · obtain ⟨n, s1, e1⟩ : ∃ n s1, len5 ls s y = (n, s1) := ⟨_, _, rfl⟩
    obtain ⟨s2, e2⟩ : ∃ s2 : S5, s2 = if s1.e = 0 ∧ usedB dist = false then { s1 with e := 53 } else s1 := ⟨_, rfl⟩
    obtain ⟨d, s3, e3⟩ : ∃ d s3, sy dist ls s2 53 = (d, s3) := ⟨_, _, rfl⟩
    obtain ⟨s4, e4⟩ : ∃ s4 : S5, s4 = if s3.e = 0 ∧ 29 < d then { s3 with e := 53 } else s3 := ⟨_, rfl⟩
    rw [copies5_far ls most dist s y (by omega) n s1 s2 s3 s4 d e1 e2 e3 e4]
    have h1 := len5_c ls s y
    have h2 : s2.c = s1.c := by rw [e2, if_c]
    have h3 := sy_c dist ls s2 53
    have h4 : s4.c = s3.c := by rw [e4, if_c]
    have h5 := dist5_c ls s4 d
    rw [e1] at h1
    rw [e3] at h3
    simp only at h1 h3
    split
    · omega
    · rw [cp5_c, if_c]
      omega

theorem syms5_stuck (ls : List Nat) (most : Nat) (lit dist : List Nat) (f : Nat) (s : S5) (h : s.e ≠ 0) : syms5 ls most lit dist f s = s := by
  cases f with
  | zero => rfl
  | succ f => simp only [syms5]; rw [if_pos h]

theorem syms5_go (ls : List Nat) (most : Nat) (lit dist : List Nat) (f : Nat) (s : S5) (h : s.e = 0) (y : Nat) (s1 : S5) (hs : sy lit ls s 53 = (y, s1)) :
    syms5 ls most lit dist (f + 1) s = if s1.e ≠ 0 then s1 else if y < 256 then syms5 ls most lit dist f (ly most s1 y) else if y = 256 then s1 else syms5 ls most lit dist f (copies5 ls most dist s1 y) := by
  simp only [syms5]
  rw [if_neg (by simp [h]), hs]

/-- A symbol takes a bit at least. -/
theorem sy_more {ns ls : List Nat} {s : S5} {wrong y : Nat} {s1 : S5} (hs : sy ns ls s wrong = (y, s1)) (he : s.e = 0) (hw : wrong ≠ 0) (h1 : s1.e = 0) : s.c < s1.c ∧ s1.c ≤ max s.c ls.length ∧ y < ns.length := by
  unfold sy at hs
  rw [if_neg (by simp [he])] at hs
  simp only [Prod.mk.injEq] at hs
  obtain ⟨rfl, rfl⟩ := hs
  simp only at h1 ⊢
  have hn := nextF_is ns (ls.drop s.c)
  rcases hn with ⟨hg, hi, hf, hk, _⟩ | ⟨hg, _⟩ | ⟨hg, _⟩
  · have h2 := hf.2.length_le
    rw [rowOf_length, List.length_drop] at h2
    have h3 := hf.1
    omega
  · rw [hg] at h1; simp at h1
  · rw [hg] at h1; simp at h1; exact absurd h1 hw

/-- A list of lengths that the codes are made of. -/
structure Lst (w : World) (G : Nat → Prop) (v : Value) (ns : List Nat) : Prop where
  src : ∃ J : Nat → Prop, SrcE natV w J v ns ∧ ∀ k, J k → G k
  len : ns.length ≤ 288
  le : ∀ n ∈ ns, n ≤ 15
  me : measure ns ≤ 32768

theorem Lst.key {w : World} {G : Nat → Prop} {v : Value} {ns : List Nat} (h : Lst w G v ns) : ∀ s, key ns s ≤ 15 := by
  intro s
  by_cases e : s < ns.length
  · rw [key_get e]; exact h.le _ (List.getElem_mem e)
  · simp [Go.Proofs.YtggcbnhckcenmaaGreatDoor.key, e]

theorem RX.le {w : World} {I G : Nat → Prop} {h : Nat} {v : Value} {ls : List Nat} {most : Nat} {s : S5} (r : RX w I G h v ls most s) (he : s.e = 0) : s.c ≤ ls.length := by
  obtain ⟨c, vo, r⟩ := r
  have := r.pl he
  have := r.le
  omega

set_option maxRecDepth 100000 in
set_option maxHeartbeats 8000000 in
theorem symbols5 (w00 w : World) (I G : Nat → Prop) (h : Nat) (v : Value) (ls : List Nat) (most : Nat) (s : S5) (vl vd : Value) (lit dist : List Nat) (hz : Sz ls most) (hr : RX w I G h v ls most s) (hS : Same w00 w) (hlow : ∀ k, k < w00.heap.size → G k)
    (hsafe : s.e = 0 → Lst w G vl lit ∧ Lst w G vd dist) :
    Calls Tryz.prog 102 #[.pointer (some ⟨h, 0, none⟩), vl, vd] w fun r w' => (∃ u, r = .returned u) ∧ RX w' I G h v ls most (syms5 ls most lit dist (ls.length + 1) s) ∧ KG G w w' := by
  obtain ⟨k4, f4⟩ := hr.err
  have HR : Hid (RX w I G h v ls most s) := hr
  have HZ : Hid (Sz ls most) := hz
  by_cases he : s.e = 0
  · obtain ⟨HLl, HLd⟩ := hsafe he
    have HLL : Hid (Lst w G vl lit) := HLl
    have HLD : Hid (Lst w G vd dist) := HLd
    obtain ⟨Jl, hJl1, hJl2⟩ := HLl.src
    obtain ⟨Jd, hJd1, hJd2⟩ := HLd.src
    have R1 := rows_any w vl Jl lit hJl1 HLl.len HLl.le HLl.me
    have HE0 : Hid (s.e = 0) := he
    have HJD : Hid (SrcE natV w Jd vd dist ∧ ∀ k, Jd k → G k) := ⟨hJd1, hJd2⟩
    have HSW : Hid (Same w00 w ∧ ∀ k, k < w00.heap.size → G k) := ⟨hS, hlow⟩
    rw [he] at k4
    obtain ⟨M, hM⟩ : ∃ M, M = ls.length := ⟨_, rfl⟩
    have HM : Hid (M = ls.length) := hM
    rw [← hM]
    clear hr hz hsafe HLl HLd hJl1 hJl2 hJd1 hJd2 he hS hlow hM
    go_enter Tryz.func102, Tryz.ntmps102
    go_wp2_with fail
    refine R1.mono ?_
    rintro r1 w1 ⟨go1, rs1, rfl, hrw1⟩
    have HRW1 : Hid (RW w w1 go1 lit.length lit (fun s => key lit s ≠ 0) rs1) := hrw1
    have R2 := rows_any w1 vd Jd dist (HJD.out.1.same hrw1.same) HLD.out.len HLD.out.le HLD.out.me
    clear hrw1 R1
    go_wp2_with fail
    refine R2.mono ?_
    rintro r2 w2 ⟨go2, rs2, rfl, hrw2⟩
    have HRW2 : Hid (RW w1 w2 go2 dist.length dist (fun s => key dist s ≠ 0) rs2) := hrw2
    clear hrw2 R2
    -- all that is there but the reading's own is kept from here on
    have HS2 : Hid (Same w w2) := hid (Same.trans HRW1.out.same HRW2.out.same)
    obtain ⟨c, vo, hrs⟩ := HR.out
    have HRS : Hid (RS w I G h v ls most s c vo) := hrs
    clear hrs
    obtain ⟨A, hA⟩ : ∃ A, A = RS.all w2 h vo := ⟨_, rfl⟩
    have HA : Hid (∀ k, k < w2.heap.size → k ≠ h → vo.ownBlock ≠ some k → A k) := hid (fun k h1 h2 h3 => by rw [hA]; exact ⟨h1, h2, h3⟩)
    have HRA : Hid (RX w2 I A h v ls most s) := hid (by rw [hA]; exact ⟨c, vo, (HRS.out.same HS2.out).more⟩)
    have HGA : Hid (∀ k, G k → A k) := hid (fun k g => by rw [hA]; exact (HRS.out.same HS2.out).all_of k g)
    have hhw : h < w.heap.size := HRS.out.blk.lt
    have hvw : ∀ k, vo.ownBlock = some k → k < w.heap.size := fun k e => HRS.out.row.lt e
    have HI1 : Hid (RowsIn w00 A go1 lit rs1) := hid ⟨fun k hk => HGA.out k (HSW.out.2 k hk), HA.out _ (Nat.lt_of_lt_of_le (HRW1.out.row.lt rfl) HRW2.out.same.size) (by have := HRW1.out.row.ge (k := go1) rfl; omega) (fun e => by have := hvw _ e; have := HRW1.out.row.ge (k := go1) rfl; omega),
      fun t ht hp k e => by
        have h1 := (HRW1.out.have' t ht hp).2 k e
        have h2 := (HRW1.out.have' t ht hp).1.lt e
        have h3 := HRW2.out.same.size
        exact HA.out k (by omega) (by omega) (fun e2 => by have := hvw _ e2; omega)⟩
    have HI2 : Hid (RowsIn w00 A go2 dist rs2) := hid ⟨fun k hk => HGA.out k (HSW.out.2 k hk), HA.out _ (HRW2.out.row.lt rfl) (by have := HRW2.out.row.ge (k := go2) rfl; have := HRW1.out.same.size; omega) (fun e => by have := hvw _ e; have := HRW2.out.row.ge (k := go2) rfl; have := HRW1.out.same.size; omega),
      fun t ht hp k e => by
        have h1 := (HRW2.out.have' t ht hp).2 k e
        have h2 := (HRW2.out.have' t ht hp).1.lt e
        have h3 := HRW1.out.same.size
        exact HA.out k (by omega) (by omega) (fun e2 => by have := hvw _ e2; omega)⟩
    have HQ1 : Hid (RW w00 w2 go1 lit.length lit (fun s => key lit s ≠ 0) rs1) := hid ((HRW1.out.later HRW2.out.same).down HSW.out.1)
    have HQ2 : Hid (RW w00 w2 go2 dist.length dist (fun s => key dist s ≠ 0) rs2) := hid (HRW2.out.down (Same.trans HSW.out.1 HRW1.out.same))
    have HJ2 : Hid (SrcE natV w2 Jd vd dist ∧ ∀ k, Jd k → A k) := hid ⟨HJD.out.1.same HS2.out, fun k j => HGA.out k (HJD.out.2 k j)⟩
    have HFIN : Hid (∀ (wF : World) (sF : S5), RX wF I A h v ls most sF → KG A w2 wF → RX wF I G h v ls most sF ∧ KG G w wF) := hid (fun wF sF hX hK => by
      obtain ⟨c2, vo2, r2⟩ := hX
      exact ⟨⟨c2, vo2, r2.weak HGA.out HRS.out.ig⟩, KG.trans (KG.same HS2.out) (KG.less hK HGA.out)⟩)
    clear hA hhw hvw HRW1 HRW2 HRS HA
    obtain ⟨k4, f4⟩ := HRA.out.err
    go_wp2_with fail
    go_loopg [8] (M + 1) (fun q zi wr => ∃ (f : Nat) (sj : S5), f ≤ q ∧ Hid (sj.e = 0 → M - sj.c < f) ∧ Hid (RX wr I A h v ls most sj) ∧ Hid (KG A w2 wr) ∧ Hid (syms5 ls most lit dist (M + 1) s = syms5 ls most lit dist f sj))
    case atStart => exact ⟨M + 1, s, by omega, hid (fun _ => by omega), HRA, Kept.refl _ _, hid rfl⟩
    case round =>
      obtain ⟨f, sj, hfq, HCj, HRj, HKj, HEj⟩ := hrel
      obtain ⟨k4, f4⟩ := HRj.out.err
      by_cases hsj : sj.e = 0
      · have hcl := HCj.out hsj
        have hle := HRj.out.le hsj
        obtain ⟨f', rfl⟩ : ∃ f', f = f' + 1 := ⟨f - 1, by omega⟩
        have Y1 := sym5 wr w00 I A h v ls most sj 53 go1 lit.length lit rs1 HZ.out HRj.out (HQ1.out.inn HI1.out HKj.out) rfl HLL.out.len HLL.out.key
        obtain ⟨y, s1, hy⟩ : ∃ y s1, sy lit ls sj 53 = (y, s1) := ⟨_, _, rfl⟩
        rw [hy] at Y1
        have HST := syms5_go ls most lit dist f' sj hsj y s1 hy
        have HMO : Hid (s1.e = 0 → sj.c < s1.c ∧ s1.c ≤ max sj.c ls.length ∧ y < lit.length) := hid (fun h1 => sy_more hy hsj (by decide) h1)
        have HSTEP : Hid (syms5 ls most lit dist (f' + 1) sj = if s1.e ≠ 0 then s1 else if y < 256 then syms5 ls most lit dist f' (ly most s1 y) else if y = 256 then s1 else syms5 ls most lit dist f' (copies5 ls most dist s1 y)) := HST
        have HCL : Hid (M - sj.c < f' + 1 ∧ sj.c ≤ M) := hid ⟨hcl, by have := HM.out; omega⟩
        rw [hsj] at k4
        clear hy HST hcl hle hsj
        go_wp2_with fail
        refine Y1.mono ?_
        rintro r3 w3 ⟨rfl, hr3, hk3⟩
        obtain ⟨k4', f4'⟩ := hr3.err
        have HR3 : Hid (RX w3 I A h v ls most s1) := hr3
        have HK3 : Hid (KG A w2 w3) := hid (HKj.out.trans hk3)
        clear hr3 hk3 Y1 k4 f4
        by_cases hs1 : s1.e = 0
        · have hmo := HMO.out hs1
          have HCN : Hid (M - s1.c < f' ∧ s1.c ≤ M) := hid (by have := HM.out; have := HCL.out; omega)
          have hyl : y < 288 := by have := HLL.out.len; omega
          have HS10 : Hid (s1.e = 0) := hs1
          rw [hs1] at k4'
          clear hmo hs1
          by_cases hy256 : y < 256
          · have L3 := lay5 w3 I A h v ls most s1 y HZ.out hy256 HR3.out
            have HSG : Hid (syms5 ls most lit dist (f' + 1) sj = syms5 ls most lit dist f' (ly most s1 y)) := hid (by rw [HSTEP.out, if_neg (by have := HS10.out; simp [this]), if_pos hy256])
            go_wp2_with fail
            refine L3.mono ?_
            rintro r4 w4 ⟨⟨u, rfl⟩, hr4, hk4⟩
            have HR4 : Hid (RX w4 I A h v ls most (ly most s1 y)) := hr4
            have HK4 : Hid (KG A w2 w4) := hid (HK3.out.trans hk4)
            clear hr4 hk4 L3
            go_wp2_with fail
            go_roundg (gk - 1)
            case measure => omega
            case rel => exact ⟨f', _, by omega, hid (fun _ => by rw [ly_c]; exact HCN.out.1), HR4, HK4, hid (by rw [HEj.out, HSG.out])⟩
          · by_cases hyE : y = 256
            · subst hyE
              have HSG : Hid (syms5 ls most lit dist (f' + 1) sj = s1) := hid (by rw [HSTEP.out, if_neg (by have := HS10.out; simp [this]), if_neg (by omega), if_pos rfl])
              go_wp2_with fail
              refine bodyPost_ret (results_none rfl _ _ _) rfl ?_
              rw [HEj.out, HSG.out]
              have hF := HFIN.out w3 s1 HR3.out HK3.out
              exact ⟨⟨_, rfl⟩, hF.1, hF.2⟩
            · have C1 := copies5_any w3 w00 I A Jd h v ls most s1 y vd dist go2 rs2 HZ.out (by omega) (by omega) HR3.out (HJ2.out.1.kept HK3.out (fun k hj _ f => f (HJ2.out.2 k hj))) HJ2.out.2 (HQ2.out.inn HI2.out HK3.out) HI2.out HLD.out.len HLD.out.key
              have HSG : Hid (syms5 ls most lit dist (f' + 1) sj = syms5 ls most lit dist f' (copies5 ls most dist s1 y)) := hid (by rw [HSTEP.out, if_neg (by have := HS10.out; simp [this]), if_neg hy256, if_neg hyE])
              have hyd1 : decide (y < 256) = false := by simp; omega
              have hyd2 : ((y : Int) == 256) = false := by simp; omega
              go_wp2_with fail
              refine C1.mono ?_
              rintro r4 w4 ⟨⟨u, rfl⟩, hr4, hk4⟩
              have HR4 : Hid (RX w4 I A h v ls most (copies5 ls most dist s1 y)) := hr4
              have HK4 : Hid (KG A w2 w4) := hid (HK3.out.trans hk4)
              clear hr4 hk4 C1
              go_wp2_with fail
              go_roundg (gk - 1)
              case measure => omega
              case rel => exact ⟨f', _, by omega, hid (fun _ => by have h1 := copies5_c ls most dist s1 y; have h2 := HCN.out; omega), HR4, HK4, hid (by rw [HEj.out, HSG.out])⟩
        · have HSG : Hid (syms5 ls most lit dist (f' + 1) sj = syms5 ls most lit dist f' s1) := hid (by rw [HSTEP.out, if_pos hs1, syms5_stuck _ _ _ _ _ _ hs1])
          have HS10 : Hid (s1.e ≠ 0) := hs1
          obtain ⟨e7, he7⟩ : ∃ e7, e7 = s1.e := ⟨_, rfl⟩
          rw [← he7] at hs1 k4'
          have hed : ((e7 : Int) != 0) = true := by simp; omega
          clear he7
          go_wp2_with fail
          go_roundg (gk - 1)
          case measure => omega
          case rel => exact ⟨f', s1, by omega, hid (fun h1 => absurd h1 HS10.out), HR3, HK3, hid (by rw [HEj.out, HSG.out])⟩
      · have HSG : Hid (syms5 ls most lit dist f sj = sj) := hid (syms5_stuck _ _ _ _ _ _ hsj)
        obtain ⟨e7, he7⟩ : ∃ e7, e7 = sj.e := ⟨_, rfl⟩
        rw [← he7] at hsj k4
        have hed : ((e7 : Int) == 0) = false := by simp; omega
        clear he7
        go_wp2_with fail
        go_end0
        rw [HEj.out, HSG.out]
        have hF := HFIN.out wr sj HRj.out HKj.out
        exact ⟨⟨_, rfl⟩, hF.1, hF.2⟩
  · have HE : Hid (syms5 ls most lit dist (ls.length + 1) s = s) := hid (syms5_stuck _ _ _ _ _ _ he)
    obtain ⟨e7, he7⟩ : ∃ e7, e7 = s.e := ⟨_, rfl⟩
    rw [← he7] at he k4
    have hed : ((e7 : Int) != 0) = true := by simp; omega
    clear he7 hr hsafe
    go_enter Tryz.func102, Tryz.ntmps102
    go_wp2_with fail
    refine bodyPost_ret (results_none rfl _ _ _) rfl ?_
    rw [HE.out]
    exact ⟨⟨_, rfl⟩, HR.out, Kept.refl _ _⟩

end Go.Proofs.YtggcbnhckcenmaaGreatDoor

/-
  Heads as layer 5 reads them: what is known at each place.
-/
namespace Go.Proofs.YtggcbnhckcenmaaGreatDoor
open Go.RowKit

/-- What is wrong with a head, told as layer 5 does. -/
def he5 (e : Nat) : Nat := if e = 10 then 55 else 52

theorem head5_err {ls : List Nat} {a e : Nat} (h : readF ls a = .error e) : head5 ls a = .error (he5 e) := by unfold head5; rw [h]; rfl

theorem chk_nats (l : List Nat) (h0 : 0 < l.length) (hl : l.length ≤ 288) (h15 : ∀ x ∈ l, x ≤ 15) : chk (l.map (fun (n : Nat) => (n : Int))) = chkN l := by
  have hok : okAll (l.map (fun (n : Nat) => (n : Int))) 0 15 = true := by
    simp only [okAll, List.length_map, Bool.and_eq_true, decide_eq_true_eq, Bool.not_eq_true', List.any_eq_false]
    refine ⟨⟨by omega, by omega⟩, fun z hz => ?_⟩
    obtain ⟨n, hn, rfl⟩ := List.mem_map.1 hz
    have := h15 n hn
    simp [badI]; omega
  unfold chk
  rw [if_pos hok, List.map_map]
  have e : l.map (Int.toNat ∘ fun (n : Nat) => (n : Int)) = l := by
    conv => rhs; rw [← List.map_id l]
    exact List.map_congr_left (fun n _ => by simp)
  rw [e]

theorem chkN_measure {l : List Nat} (h : chkN l = 0) : measure l ≤ 32768 := by
  unfold chkN at h
  split at h
  · omega
  · omega

theorem unused_measure {l : List Nat} (h : usedB l = false) : measure l = 0 := by
  induction l with
  | nil => rfl
  | cons a l ih =>
    unfold usedB at h ih
    simp only [List.any_cons, Bool.or_eq_false_iff] at h
    have ha : a = 0 := by have := h.1; simpa using this
    subst ha
    show (unit 0 + (l.map unit).sum) = 0
    have := ih h.2
    unfold measure at this
    rw [this]
    rfl

theorem chkN_small (l : List Nat) : chkN l = 0 ∨ chkN l = 30 ∨ chkN l = 31 := by
  unfold chkN
  split
  · exact .inr (.inl rfl)
  · split
    · exact .inl rfl
    · split
      · exact .inl rfl
      · exact .inr (.inr rfl)

theorem tk_cases (ls : List Nat) (c : Nat) (so : List Nat) (n : Nat) : (c + n ≤ ls.length ∧ tk ls ⟨c, so, 0⟩ n = (numAt ls c n, ⟨c + n, so, 0⟩)) ∨ (ls.length < c + n ∧ tk ls ⟨c, so, 0⟩ n = (0, ⟨c, so, 55⟩)) := by
  by_cases h : c + n ≤ ls.length
  · exact .inl ⟨h, tk_ok rfl h⟩
  · exact .inr ⟨by omega, tk_end rfl (by simp only; omega)⟩

/-- Three numbers that are not there. -/
theorem tk_three (ls : List Nat) (a : Nat) (so : List Nat) (h : ls.length < a + 14) (t1 t2 t3 : Nat × S5) (h1 : tk ls ⟨a, so, 0⟩ 5 = t1) (h2 : tk ls t1.2 5 = t2) (h3 : tk ls t2.2 4 = t3) : t3.2.e = 55 := by
  by_cases k1 : ls.length < a + 5
  · rw [tk_end rfl k1] at h1
    subst h1
    rw [tk_stuck (by simp)] at h2
    subst h2
    rw [tk_stuck (by simp)] at h3
    subst h3
    rfl
  · rw [tk_ok rfl (by simp only; omega)] at h1
    subst h1
    simp only at h2
    by_cases k2 : ls.length < a + 5 + 5
    · rw [tk_end rfl k2] at h2
      subst h2
      rw [tk_stuck (by simp)] at h3
      subst h3
      rfl
    · rw [tk_ok rfl (by simp only; omega)] at h2
      subst h2
      simp only at h3
      rw [tk_end rfl (by simp only; omega)] at h3
      subst h3
      rfl

/-- The lists of all lengths. -/
def finF (lit a : Nat) : Except Nat (List Nat × Nat) → Except Nat ((List Nat × List Nat) × Nat)
  | .error e => .error e
  | .ok (l, c) => .ok ((l.take lit, l.drop lit), c - a)

/-- What follows the three numbers, as readF has it. -/
def restF (ls : List Nat) (a lit dist many : Nat) : Except Nat ((List Nat × List Nat) × Nat) :=
  if ls.length < a + 14 + 3 * many then .error 10
  else if chkN (codesF ls (a + 14) many) ≠ 0 then .error (chkN (codesF ls (a + 14) many))
  else finF lit a (bodyF (codesF ls (a + 14) many) ls (lit + dist) (lit + dist) [] (a + 14 + 3 * many))

/-- Where the walk stands behind the three numbers. -/
def At3 (ls : List Nat) (a c e lit dist many : Nat) : Prop := (e ≠ 0 ∧ head5 ls a = .error e) ∨ (e = 0 ∧ c = a + 14 ∧ a + 14 ≤ ls.length ∧ readF ls a = restF ls a lit dist many ∧ lit ≤ 286 ∧ dist ≤ 30)

/-- The error behind a call of bad. -/
def badE (e : Nat) (b : Bool) : Nat := if e = 0 ∧ b = true then 52 else e
theorem badE_true : badE 0 true = 52 := rfl
theorem badE_false (e : Nat) : badE e false = e := by unfold badE; rw [if_neg (fun h => by cases h.2)]
theorem badE_stuck {e : Nat} (h : e ≠ 0) (b : Bool) : badE e b = e := by unfold badE; rw [if_neg (fun x => h x.1)]

theorem at3_of (ls : List Nat) (a : Nat) (so : List Nat) (t1 t2 t3 : Nat × S5) (h1 : tk ls ⟨a, so, 0⟩ 5 = t1) (h2 : tk ls t1.2 5 = t2) (h3 : tk ls t2.2 4 = t3) (B : Bool) (hB : B = true ↔ (286 < t1.1 + 257 ∨ 30 < t2.1 + 1)) :
    At3 ls a t3.2.c (badE t3.2.e B) (t1.1 + 257) (t2.1 + 1) (t3.1 + 4) := by
  unfold badE
  by_cases hf : ls.length < a + 14
  · have he := tk_three ls a so hf t1 t2 t3 h1 h2 h3
    refine .inl ?_
    rw [he, if_neg (by simp)]
    refine ⟨by decide, ?_⟩
    rw [head5_err (e := 10) (by unfold readF; rw [if_pos hf])]
    rfl
  · rw [tk_ok rfl (by simp only; omega)] at h1
    subst h1
    rw [tk_ok rfl (by simp only; omega)] at h2
    subst h2
    rw [tk_ok rfl (by simp only; omega)] at h3
    subst h3
    simp only at hB ⊢
    by_cases hb : B = true
    · refine .inl ?_
      rw [if_pos ⟨trivial, hb⟩]
      refine ⟨by decide, ?_⟩
      rw [head5_err (e := 40) (by unfold readF; rw [if_neg hf, if_pos (hB.1 hb)])]
      rfl
    · refine .inr ?_
      rw [if_neg (fun h => hb h.2)]
      have hn : ¬ (286 < numAt ls a 5 + 257 ∨ 30 < numAt ls (a + 5) 5 + 1) := fun h => hb (hB.2 h)
      refine ⟨rfl, by omega, by omega, ?_, by omega, by omega⟩
      unfold readF restF
      rw [if_neg hf, if_neg hn, show a + 5 + 5 = a + 10 by omega]
      rfl

/-- Where the walk stands among the lengths of the steps' codes. -/
def AtC (ls : List Nat) (a i c e lit dist many : Nat) (xs : List Nat) : Prop := (e ≠ 0 ∧ head5 ls a = .error e) ∨ (e = 0 ∧ c = a + 14 + 3 * i ∧ a + 14 + 3 * i ≤ ls.length ∧ xs = codesF ls (a + 14) i ∧ readF ls a = restF ls a lit dist many ∧ lit ≤ 286 ∧ dist ≤ 30)

theorem At3.codes {ls : List Nat} {a c e lit dist many : Nat} (h : At3 ls a c e lit dist many) : AtC ls a 0 c e lit dist many (List.replicate 19 0) := by
  rcases h with h | ⟨h1, h2, h3, h4, h5⟩
  · exact .inl h
  · exact .inr ⟨h1, by omega, by omega, rfl, h4, h5⟩

theorem AtC.next {ls : List Nat} {a i c lit dist many : Nat} {xs so : List Nat} (h : AtC ls a i c 0 lit dist many xs) (hi : i < many) {x : Nat} {s' : S5} (ht : tk ls ⟨c, so, 0⟩ 3 = (x, s')) : AtC ls a (i + 1) s'.c s'.e lit dist many (xs.set (ord.getD i 0) x) := by
  rcases h with ⟨h1, _⟩ | ⟨_, rfl, h3, rfl, h5, h6⟩
  · exact absurd rfl h1
  · by_cases hf : a + 14 + 3 * i + 3 ≤ ls.length
    · rw [tk_ok rfl hf] at ht
      simp only [Prod.mk.injEq] at ht
      obtain ⟨rfl, rfl⟩ := ht
      exact .inr ⟨rfl, by simp only; omega, by omega, rfl, h5, h6⟩
    · rw [tk_end rfl (by simp only; omega)] at ht
      simp only [Prod.mk.injEq] at ht
      obtain ⟨rfl, rfl⟩ := ht
      refine .inl ⟨by simp, ?_⟩
      rw [head5_err (e := 10) (by rw [h5]; unfold restF; rw [if_pos (by omega)])]
      rfl

/-- Where the walk stands behind the codes' check. -/
theorem AtC.check {ls : List Nat} {a c lit dist many : Nat} {xs : List Nat} (h : AtC ls a many c 0 lit dist many xs) : (chkN xs ≠ 0 → head5 ls a = .error 52) ∧ (chkN xs = 0 → readF ls a = finF lit a (bodyF xs ls (lit + dist) (lit + dist) [] c)) := by
  rcases h with ⟨h1, _⟩ | ⟨_, rfl, h3, rfl, h5, h6⟩
  · exact absurd rfl h1
  · constructor
    · intro hc
      have hne : chkN (codesF ls (a + 14) many) ≠ 10 := by rcases chkN_small (codesF ls (a + 14) many) with h | h | h <;> omega
      rw [head5_err (e := chkN (codesF ls (a + 14) many)) (by rw [h5]; unfold restF; rw [if_neg (by omega), if_pos hc])]
      unfold he5
      rw [if_neg hne]
    · intro hc
      rw [h5]
      unfold restF
      rw [if_neg (by omega), if_neg (by omega)]

/-- Where the walk stands among the steps: it goes on; it has gone wrong; too much was said. -/
def AtB (ls : List Nat) (a lit dist : Nat) (xs : List Nat) (f c e : Nat) (l : List Nat) : Prop :=
  (e ≠ 0 ∧ head5 ls a = .error e) ∨ (e = 0 ∧ lit + dist < l.length ∧ head5 ls a = .error 52) ∨
  (e = 0 ∧ l.length ≤ lit + dist ∧ lit + dist - l.length ≤ f ∧ a ≤ c ∧ (∀ x ∈ l, x ≤ 15) ∧ readF ls a = finF lit a (bodyF xs ls (lit + dist) f l c))

/-- A step whose symbol is not there. -/
theorem AtB.bad {ls : List Nat} {a lit dist : Nat} {xs : List Nat} {f c is k g : Nat} {l : List Nat} (h : AtB ls a lit dist xs f c 0 l) (hl : l.length < lit + dist) (hn : nextF xs (ls.drop c) = (is, k, g)) (hg : g ≠ 0) : head5 ls a = .error (he5 g) := by
  rcases h with ⟨h1, _⟩ | ⟨_, h1, _⟩ | ⟨_, h2, h3, _, _, h5⟩
  · exact absurd rfl h1
  · omega
  · obtain ⟨f', rfl⟩ : ∃ f', f = f' + 1 := ⟨f - 1, by omega⟩
    refine head5_err ?_
    rw [h5, bodyF_err hl (e := g) (by unfold stepF; rw [hn]; simp only; rw [if_pos hg])]
    rfl

/-- A step whose number is not there. -/
theorem AtB.short {ls : List Nat} {a lit dist : Nat} {xs : List Nat} {f c is k : Nat} {l : List Nat} (h : AtB ls a lit dist xs f c 0 l) (hl : l.length < lit + dist) (hn : nextF xs (ls.drop c) = (is, k, 0)) (hs : ls.length < c + k + xbits is) : head5 ls a = .error 55 := by
  rcases h with ⟨h1, _⟩ | ⟨_, h1, _⟩ | ⟨_, h2, h3, _, _, h5⟩
  · exact absurd rfl h1
  · omega
  · obtain ⟨f', rfl⟩ : ∃ f', f = f' + 1 := ⟨f - 1, by omega⟩
    refine (head5_err (e := 10) ?_)
    rw [h5, bodyF_err hl (e := 10) (by unfold stepF; rw [hn]; simp only; rw [if_neg (by simp), if_pos hs])]
    rfl

theorem AtB.with {ls : List Nat} {a lit dist : Nat} {xs : List Nat} {f c is k : Nat} {l : List Nat} (h : AtB ls a lit dist xs f c 0 l) (hl : l.length < lit + dist) (hn : nextF xs (ls.drop c) = (is, k, 0)) (hs : c + k + xbits is ≤ ls.length) :
    readF ls a = finF lit a (match withM l ((is : Int), ((numAt ls (c + k) (xbits is) : Nat) : Int)) (lit + dist) with | none => Except.error 41 | some m => bodyF xs ls (lit + dist) (f - 1) m (c + k + xbits is)) := by
  rcases h with ⟨h1, _⟩ | ⟨_, h1, _⟩ | ⟨_, h2, h3, _, _, h5⟩
  · exact absurd rfl h1
  · omega
  · obtain ⟨f', rfl⟩ : ∃ f', f = f' + 1 := ⟨f - 1, by omega⟩
    rw [h5, bodyF_step hl (s := is) (x := numAt ls (c + k) (xbits is)) (c' := c + k + xbits is) (by unfold stepF; rw [hn]; simp only; rw [if_neg (by simp), if_neg (by omega)])]
    rfl

/-- A step that says a length some times. -/
theorem AtB.says {ls : List Nat} {a lit dist : Nat} {xs : List Nat} {f c is k x v n : Nat} {l : List Nat} (h : AtB ls a lit dist xs f c 0 l) (hl : l.length < lit + dist) (hn : nextF xs (ls.drop c) = (is, k, 0)) (hs : c + k + xbits is ≤ ls.length) (hx : x = numAt ls (c + k) (xbits is)) (hsay : saysM ((is : Int), (x : Int)) l = some (v, n)) :
    AtB ls a lit dist xs (f - 1) (c + k + xbits is) 0 (l ++ List.replicate n v) := by
  have hw := h.with hl hn hs
  rw [← hx] at hw
  unfold withM at hw
  rw [hsay] at hw
  simp only at hw
  have h' := h
  rcases h with ⟨h1, _⟩ | ⟨_, h1, _⟩ | ⟨_, h2, h3, hac, h15, h5⟩
  · exact absurd rfl h1
  · omega
  · have h1 := saysM_le hsay h15
    by_cases hov : lit + dist < l.length + n
    · refine .inr (.inl ⟨rfl, by simp; omega, ?_⟩)
      rw [if_pos hov] at hw
      rw [head5_err hw]
      rfl
    · rw [if_neg hov] at hw
      refine .inr (.inr ⟨rfl, by simp; omega, by simp; omega, by omega, ?_, hw⟩)
      intro y hy
      rcases List.mem_append.1 hy with hy | hy
      · exact h15 y hy
      · have := List.eq_of_mem_replicate hy; omega

/-- A step that says nothing that may be. -/
theorem AtB.none {ls : List Nat} {a lit dist : Nat} {xs : List Nat} {f c is k x : Nat} {l : List Nat} (h : AtB ls a lit dist xs f c 0 l) (hl : l.length < lit + dist) (hn : nextF xs (ls.drop c) = (is, k, 0)) (hs : c + k + xbits is ≤ ls.length) (hx : x = numAt ls (c + k) (xbits is)) (hsay : saysM ((is : Int), (x : Int)) l = none) : head5 ls a = .error 52 := by
  have hw := h.with hl hn hs
  rw [← hx] at hw
  unfold withM at hw
  rw [hsay] at hw
  rw [head5_err hw]
  rfl

/-- The lists are said. -/
theorem AtB.done {ls : List Nat} {a lit dist : Nat} {xs : List Nat} {f c : Nat} {l : List Nat} (h : AtB ls a lit dist xs f c 0 l) (hl : l.length = lit + dist) : readF ls a = .ok ((l.take lit, l.drop lit), c - a) ∧ a ≤ c ∧ (∀ x ∈ l, x ≤ 15) := by
  rcases h with ⟨h1, _⟩ | ⟨_, h1, _⟩ | ⟨_, h2, h3, hac, h15, h5⟩
  · exact absurd rfl h1
  · omega
  · refine ⟨?_, hac, h15⟩
    rw [h5, bodyF_end (by omega)]
    rfl

theorem AtB.over {ls : List Nat} {a lit dist : Nat} {xs : List Nat} {f c : Nat} {l : List Nat} (h : AtB ls a lit dist xs f c 0 l) (hl : lit + dist < l.length) : head5 ls a = .error 52 := by
  rcases h with ⟨h1, _⟩ | ⟨_, _, h1⟩ | ⟨_, h2, _⟩
  · exact absurd rfl h1
  · exact h1
  · omega

theorem AtB.wrong {ls : List Nat} {a lit dist : Nat} {xs : List Nat} {f c e : Nat} {l : List Nat} (h : AtB ls a lit dist xs f c e l) (he : e ≠ 0) : head5 ls a = .error e := by
  rcases h with ⟨_, h1⟩ | ⟨h1, _⟩ | ⟨h1, _⟩
  · exact h1
  · exact absurd h1 he
  · exact absurd h1 he

end Go.Proofs.YtggcbnhckcenmaaGreatDoor

/-
  Bits that are let go of: what is read behind a whole number of bytes is read the same without them.
-/
namespace Go.Proofs.YtggcbnhckcenmaaGreatDoor

/-- An answer whose place lies so much farther. -/
def shC {α : Type} (k : Nat) : Except Nat (α × Nat) → Except Nat (α × Nat)
  | .error e => .error e
  | .ok x => .ok (x.1, k + x.2)

theorem shC_bind {α β : Type} {k : Nat} {r : Except Nat (α × Nat)} {g g' : α → Nat → Except Nat (β × Nat)} (h : ∀ x c, g' x (k + c) = shC k (g x c)) : bindP (shC k r) g' = shC k (bindP r g) := by
  cases r with
  | error e => rfl
  | ok x => exact h x.1 x.2

theorem drop_sh (A ls : List Nat) (c : Nat) : (A ++ ls).drop (A.length + c) = ls.drop c := by
  rw [← List.drop_drop, List.drop_left]

theorem numAt_sh (A ls : List Nat) (c n : Nat) : numAt (A ++ ls) (A.length + c) n = numAt ls c n := by unfold numAt; rw [drop_sh]

theorem tkP_sh (A ls : List Nat) (c n : Nat) : tkP (A ++ ls) (A.length + c) n = shC A.length (tkP ls c n) := by
  unfold tkP
  by_cases h : ls.length < c + n
  · rw [if_pos h, if_pos (by rw [List.length_append]; omega)]; rfl
  · rw [if_neg h, if_neg (by rw [List.length_append]; omega), numAt_sh, Nat.add_assoc]; rfl

theorem syP_sh (ns A ls : List Nat) (c last : Nat) : syP ns (A ++ ls) (A.length + c) last = shC A.length (syP ns ls c last) := by
  unfold syP
  rw [drop_sh]
  split
  · rfl
  · split
    · rfl
    · rw [Nat.add_assoc]; rfl

theorem numP_sh (A ls : List Nat) (c y k : Nat) : numP (A ++ ls) (A.length + c) y k = shC A.length (numP ls c y k) := by
  unfold numP
  split
  · rfl
  · rw [tkP_sh]; exact shC_bind (fun _ _ => rfl)

theorem lenP_sh (A ls : List Nat) (c y : Nat) : lenP (A ++ ls) (A.length + c) y = shC A.length (lenP ls c y) := by
  unfold lenP
  split
  · rw [numP_sh]; exact shC_bind (fun _ _ => rfl)
  · rfl

theorem dsyP_sh (dist A ls : List Nat) (c : Nat) : dsyP dist (A ++ ls) (A.length + c) = shC A.length (dsyP dist ls c) := by
  unfold dsyP
  split
  · rfl
  · exact syP_sh dist A ls c 29

theorem copP_sh (A ls dist : List Nat) (c y : Nat) : copP (A ++ ls) dist (A.length + c) y = shC A.length (copP ls dist c y) := by
  unfold copP
  rw [lenP_sh]
  refine shC_bind (fun n c1 => ?_)
  rw [dsyP_sh]
  refine shC_bind (fun z c2 => ?_)
  rw [numP_sh]
  exact shC_bind (fun _ _ => rfl)

theorem symP_sh (A ls : List Nat) (last : Bool) (lit dist : List Nat) (y c : Nat) : symP (A ++ ls) last lit dist y (A.length + c) = shC A.length (symP ls last lit dist y c) := by
  unfold symP
  split
  · rfl
  · split
    · rfl
    · rw [copP_sh]; exact shC_bind (fun _ _ => rfl)

theorem stepP_sh (A ls : List Nat) (b : Bk) (c : Nat) : stepP (A ++ ls) b (A.length + c) = shC A.length (stepP ls b c) := by
  cases b with
  | raw last left =>
    cases left with
    | zero => rfl
    | succ n => rw [stepP_raw, stepP_raw, tkP_sh]; exact shC_bind (fun _ _ => rfl)
  | sym last lit dist =>
    rw [stepP_sym, stepP_sym, syP_sh]
    exact shC_bind (fun y c1 => symP_sh A ls last lit dist y c1)

theorem cntP_sh (A ls : List Nat) (h8 : A.length % 8 = 0) (c : Nat) : cntP (A ++ ls) (A.length + c) = shC A.length (cntP ls c) := by
  unfold cntP
  rw [show (A.length + c + 7) / 8 * 8 = A.length + (c + 7) / 8 * 8 by omega, tkP_sh]
  refine shC_bind (fun n c1 => ?_)
  rw [tkP_sh]
  refine shC_bind (fun t c2 => ?_)
  split
  · rfl
  · rfl

theorem stepF_sh (ns A ls : List Nat) (c : Nat) : stepF ns (A ++ ls) (A.length + c) = shC A.length (stepF ns ls c) := by
  unfold stepF
  rw [drop_sh]
  split
  · rfl
  · rw [Nat.add_assoc A.length c, numAt_sh, List.length_append]
    by_cases h : ls.length < c + (nextF ns (ls.drop c)).2.1 + xbits (nextF ns (ls.drop c)).1
    · rw [if_pos h, if_pos (by omega)]; rfl
    · rw [if_neg h, if_neg (by omega), Nat.add_assoc A.length]; rfl

theorem bodyF_sh (ns A ls : List Nat) (N f : Nat) (l : List Nat) (c : Nat) : bodyF ns (A ++ ls) N f l (A.length + c) = shC A.length (bodyF ns ls N f l c) := by
  induction f generalizing l c with
  | zero => rfl
  | succ f ih =>
    unfold bodyF
    split
    · rfl
    · rw [stepF_sh]
      cases hs : stepF ns ls c with
      | error e => rfl
      | ok x =>
        obtain ⟨s, c'⟩ := x
        simp only [shC]
        cases hw : withM l ((s.1 : Int), (s.2 : Int)) N with
        | none => rfl
        | some m => exact ih m c'

theorem codesF_sh (A ls : List Nat) (c i : Nat) : codesF (A ++ ls) (A.length + c) i = codesF ls c i := by
  induction i with
  | zero => rfl
  | succ i ih => rw [codesF, codesF, ih, Nat.add_assoc, numAt_sh]

theorem readF_sh (A ls : List Nat) (a : Nat) : readF (A ++ ls) (A.length + a) = readF ls a := by
  unfold readF
  rw [Nat.add_assoc A.length a 14, Nat.add_assoc A.length a 5, Nat.add_assoc A.length a 10, numAt_sh, numAt_sh, numAt_sh, codesF_sh, Nat.add_assoc A.length (a + 14), bodyF_sh, List.length_append]
  by_cases h1 : ls.length < a + 14
  · rw [if_pos h1, if_pos (by omega)]
  · rw [if_neg h1, if_neg (by omega)]
    split
    · rfl
    · by_cases h3 : ls.length < a + 14 + 3 * (numAt ls (a + 10) 4 + 4)
      · rw [if_pos h3, if_pos (by omega)]
      · rw [if_neg h3, if_neg (by omega)]
        split
        · rfl
        · generalize bodyF _ ls _ _ [] (a + 14 + 3 * (numAt ls (a + 10) 4 + 4)) = r
          cases r with
          | error e => rfl
          | ok x =>
            obtain ⟨l, c⟩ := x
            simp only [shC]
            rw [show A.length + c - (A.length + a) = c - a by omega]

theorem hdP_sh (A ls : List Nat) (c : Nat) : hdP (A ++ ls) (A.length + c) = shC A.length (hdP ls c) := by
  unfold hdP head5
  rw [readF_sh]
  cases readF ls c with
  | error e => rfl
  | ok x =>
    obtain ⟨⟨l, d⟩, n⟩ := x
    simp only
    split
    · rename_i h
      split at h
      · simp only [Except.error.injEq] at h; subst h; rfl
      · cases h
    · rename_i h
      split at h
      · cases h
      · simp only [Except.ok.injEq, Prod.mk.injEq] at h
        obtain ⟨rfl, rfl⟩ := h
        rw [Nat.add_assoc]; rfl

theorem kndP_sh (A ls : List Nat) (h8 : A.length % 8 = 0) (last : Bool) (c k : Nat) : kndP (A ++ ls) last (A.length + c) k = shC A.length (kndP ls last c k) := by
  unfold kndP
  split
  · rw [cntP_sh A ls h8]; exact shC_bind (fun _ _ => rfl)
  · split
    · rfl
    · split
      · rw [hdP_sh]; exact shC_bind (fun _ _ => rfl)
      · rfl

theorem begP_sh (A ls : List Nat) (h8 : A.length % 8 = 0) (c : Nat) : begP (A ++ ls) (A.length + c) = shC A.length (begP ls c) := by
  unfold begP
  rw [tkP_sh]
  refine shC_bind (fun l c1 => ?_)
  rw [tkP_sh]
  exact shC_bind (fun k c2 => kndP_sh A ls h8 _ c2 k)

def shS (k : Nat) (s : Ps) : Ps := ⟨k + s.c, s.out, s.bk⟩
def shR (k : Nat) : Except Nat (Ps × Bool) → Except Nat (Ps × Bool)
  | .error e => .error e
  | .ok x => .ok (shS k x.1, x.2)

theorem stP_sh (A ls : List Nat) (h8 : A.length % 8 = 0) (most : Nat) (s : Ps) : stP (A ++ ls) most (shS A.length s) = shR A.length (stP ls most s) := by
  cases hbk : s.bk with
  | none =>
    have hb := begP_sh A ls h8 s.c
    cases hg : begP ls s.c with
    | error e =>
      rw [stP_none_err hbk hg, stP_none_err (s := shS A.length s) (e := e) hbk (by rw [hg] at hb; exact hb)]; rfl
    | ok x =>
      rw [stP_none_ok (b := x.1) (c := x.2) hbk hg, stP_none_ok (s := shS A.length s) (b := x.1) (c := A.length + x.2) hbk (by rw [hg] at hb; exact hb)]; rfl
  | some b =>
    have hb := stepP_sh A ls b s.c
    cases hg : stepP ls b s.c with
    | error e =>
      rw [stP_some_err hbk hg, stP_some_err (s := shS A.length s) (e := e) hbk (by rw [hg] at hb; exact hb)]; rfl
    | ok x =>
      obtain ⟨⟨t, b'⟩, c⟩ := x
      rw [stP_some_ok hbk hg, stP_some_ok (s := shS A.length s) (x := ((t, b'), A.length + c)) hbk (by rw [hg] at hb; exact hb)]
      by_cases ht : t = .fin
      · subst ht
        rw [goP_fin, goP_fin]
        split
        · rfl
        · rfl
      · cases hl : layP most s.out t with
        | error e => rw [goP_err ht hl, goP_err (s := shS A.length s) ht hl]; rfl
        | ok o => rw [goP_ok ht hl, goP_ok (s := shS A.length s) ht hl]; rfl

theorem Ends.sh {ls : List Nat} {most : Nat} {s t : Ps} {e : Nat} (h : Ends ls most s t e) (A : List Nat) (h8 : A.length % 8 = 0) : Ends (A ++ ls) most (shS A.length s) (shS A.length t) e := by
  induction h with
  | stop h => exact .stop (by rw [stP_sh A ls h8, h]; rfl)
  | done h => exact .done (by rw [stP_sh A ls h8, h]; rfl)
  | step h _ ih => exact .step (by rw [stP_sh A ls h8, h]; rfl) ih

/-- What waits, with the bytes let go of, and more bytes: the same as all bytes from the front. -/
theorem Ends.goes {B cs : List Nat} {most : Nat} {t u : Ps} {e : Nat} (h : Ends (ofBytes B) most ps0 t 55) (h' : Ends (ofBytes (B.drop (t.c / 8) ++ cs)) most ⟨t.c % 8, t.out, t.bk⟩ u e) : Ends (ofBytes (B ++ cs)) most ps0 (shS (t.c / 8 * 8) u) e := by
  have hle := (h.inv (ofBytes_lt B) (ps0_ok _)).1.le
  rw [ofBytes_length] at hle
  have hq : t.c / 8 ≤ B.length := by omega
  have hA : (ofBytes (B.take (t.c / 8))).length = t.c / 8 * 8 := by rw [ofBytes_length, List.length_take]; omega
  have h2 := h'.sh (ofBytes (B.take (t.c / 8))) (by omega)
  rw [← ofBytes_append, ← List.append_assoc, List.take_append_drop, hA] at h2
  have e1 : shS (t.c / 8 * 8) ⟨t.c % 8, t.out, t.bk⟩ = t := by
    unfold shS
    simp only
    rw [show t.c / 8 * 8 + t.c % 8 = t.c by omega]
  rw [e1] at h2
  rw [ofBytes_append] at h2 ⊢
  exact h.more (ofBytes_lt B) (ofBytes cs) (ofBytes_lt cs) (ps0_ok _) (Nat.zero_le _) rfl h2

end Go.Proofs.YtggcbnhckcenmaaGreatDoor
