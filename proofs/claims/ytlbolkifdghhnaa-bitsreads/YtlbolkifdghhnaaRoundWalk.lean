/-
  The walk of the law BitsRound.
-/
import Derived.Test.YtlbolkifdghhnaaMay
import Derived.Laws.Bits64
namespace Go.Proofs.Ytlbolkifdghhnaa
open Go.RowKit

/-- How many bits the first j calls lay, and their number. -/
def accC (V : Nat → Nat) (N : Nat → Int) : Nat → Nat
  | 0 => 0
  | j + 1 => accC V N j + putN (V j) (N j)
def accX (V : Nat → Nat) (N : Nat → Int) : Nat → Nat
  | 0 => 0
  | j + 1 => accX V N j + putV (V j) (N j) * 2 ^ accC V N j

theorem accC_le (V : Nat → Nat) (N : Nat → Int) (j : Nat) : accC V N j ≤ 32 * j := by
  induction j with
  | zero => simp [accC]
  | succ j ih => have := putN_le (V j) (N j); simp only [accC]; omega

theorem accC_mono (V : Nat → Nat) (N : Nat → Int) {i j : Nat} (h : i ≤ j) : accC V N i ≤ accC V N j := by
  induction j with
  | zero => have : i = 0 := by omega
            subst this; exact Nat.le_refl _
  | succ j ih =>
    by_cases e : i = j + 1
    · subst e; exact Nat.le_refl _
    · have := ih (by omega); simp only [accC]; omega

theorem accX_lt (V : Nat → Nat) (N : Nat → Int) (j : Nat) : accX V N j < 2 ^ accC V N j := by
  induction j with
  | zero => simp [accC, accX]
  | succ j ih =>
    simp only [accC, accX, Nat.pow_add]
    have h1 := putV_lt (V j) (N j)
    have h2 : (putV (V j) (N j) + 1) * 2 ^ accC V N j ≤ 2 ^ putN (V j) (N j) * 2 ^ accC V N j := Nat.mul_le_mul_right _ h1
    rw [Nat.add_mul, Nat.mul_comm (2 ^ putN (V j) (N j))] at h2
    omega

theorem accX_split (V : Nat → Nat) (N : Nat → Int) {j L : Nat} (h : j ≤ L) : ∃ R, accX V N L = accX V N j + 2 ^ accC V N j * R := by
  induction L with
  | zero => have : j = 0 := by omega
            subst this; exact ⟨0, by simp⟩
  | succ L ih =>
    by_cases e : j = L + 1
    · subst e; exact ⟨0, by simp⟩
    · obtain ⟨R, hR⟩ := ih (by omega)
      have hm := accC_mono V N (show j ≤ L by omega)
      refine ⟨R + putV (V L) (N L) * 2 ^ (accC V N L - accC V N j), ?_⟩
      simp only [accX]
      rw [hR, Nat.mul_add, Nat.add_assoc]
      congr 2
      rw [Nat.mul_left_comm, ← Nat.pow_add, show accC V N j + (accC V N L - accC V N j) = accC V N L by omega]

/-- What was put is taken again. -/
theorem accX_take (V : Nat → Nat) (N : Nat → Int) {j L : Nat} (h : j < L) (hm : mayB (V j) (N j) = true) : accX V N L / 2 ^ accC V N j % 2 ^ (N j).toNat = V j := by
  obtain ⟨R, hR⟩ := accX_split V N (show j + 1 ≤ L from h)
  have h1 := accX_lt V N j
  have h2 := (mayB_true hm).2.2
  have e : accX V N L = accX V N j + 2 ^ accC V N j * (V j + 2 ^ (N j).toNat * R) := by
    rw [hR]
    simp only [accX, accC, putV, putN, hm, if_true]
    rw [Nat.pow_add, Nat.mul_add, Nat.mul_assoc, Nat.mul_comm (V j), Nat.add_assoc]
  rw [e, Nat.add_mul_div_left _ _ (Nat.two_pow_pos _), Nat.div_eq_of_lt h1, Nat.zero_add, Nat.add_mul_mod_self_left, Nat.mod_eq_of_lt h2]

/-- The cells of a slice of calls. -/
def OpsAt (w : World) (a : Option Addr) (len : Nat) (K : Nat → Int) (V : Nat → Nat) (N : Nat → Int) : Prop :=
  ∀ j, j < len → V j < 4294967296 ∧ ∃ b o, a = some ⟨b, o, none⟩ ∧ w.cell? ⟨b, o + j * 3, none⟩ = some (.int .i64 (K j)) ∧ w.cell? ⟨b, o + j * 3 + 1, none⟩ = some (.int .u32 (V j : Nat)) ∧ w.cell? ⟨b, o + j * 3 + 2, none⟩ = some (.int .i64 (N j))

theorem OpsAt.kept {w w' : World} {a : Option Addr} {len : Nat} {K : Nat → Int} {V : Nat → Nat} {N : Nat → Int} (h : OpsAt w a len K V N) {B : Nat} (hB : w.heap.size ≤ B) (hk : Kept (Above B) w w') : OpsAt w' a len K V N := by
  intro j hj
  obtain ⟨hv, b, o, ha, h1, h2, h3⟩ := h j hj
  have hb : b < w.heap.size := World.block_lt_of_cell? w _ h1
  have hn : ¬ Above B b := by unfold Above; omega
  exact ⟨hv, b, o, ha, hk.cell h1 hn, hk.cell h2 hn, hk.cell h3 hn⟩

/-- A writer alone: what holds while calls are made. -/
structure One (w0 w : World) (p : Nat) (s : Value) (X c : Nat) : Prop where
  wr : Wr w p s X c
  ap : ∀ k, Fp p s k → w0.heap.size ≤ k
  kept : Kept (Above w0.heap.size) w0 w

theorem One.put {w0 w w' : World} {p X X' c c' : Nat} {s s' : Value} (h : One w0 w p s X c) (hw : Wr w' p s' X' c') (hk : Kept (Fp p s) w w') (hg : Grew w s s') : One w0 w' p s' X' c' := by
  have hsz := h.kept.size
  refine ⟨hw, ?_, h.kept.trans hk (fun _ _ e => e) (fun x _ e => h.ap x e)⟩
  intro k hk2
  rcases hk2 with e | e
  · exact h.ap k (.inl e)
  · rcases hg with e' | e'
    · exact h.ap k (.inr (by rw [← e', e]))
    · have := e' k e; omega

theorem One.draw {w0 w : World} {p X c : Nat} {s : Value} (h : One w0 w p s X c) (m : Nat) : One w0 (w.drewN m) p s X c :=
  ⟨h.wr.kept ((Kept.refl (fun _ => False) w).drewN m) (fun _ _ e => e), h.ap, h.kept.drewN m⟩

/-- A reader alone. -/
structure Rds (w0 w : World) (q : Nat) (t : Value) (bs : List Nat) (c : Nat) : Prop where
  rd : St w q t bs c
  aq : ∀ k, Fp q t k → w0.heap.size ≤ k
  kept : Kept (Above w0.heap.size) w0 w

theorem Rds.draw {w0 w : World} {q c : Nat} {t : Value} {bs : List Nat} (h : Rds w0 w q t bs c) (m : Nat) : Rds w0 (w.drewN m) q t bs c := ⟨h.rd.drewN m, h.aq, h.kept.drewN m⟩

theorem Rds.step {w0 w w' : World} {q c c' : Nat} {t : Value} {bs : List Nat} (h : Rds w0 w q t bs c) (hr : St w' q t bs c') (hk : Kept (· = q) w w') : Rds w0 w' q t bs c' :=
  ⟨hr, h.aq, h.kept.trans hk (fun _ _ e => e) (fun x _ e => h.aq x (.inl e))⟩

theorem Rds.fresh {w0 w w' : World} {q c : Nat} {t : Value} {bs : List Nat} (h : Rds w0 w q t bs c) (hk : Kept (fun _ => False) w w') : Rds w0 w' q t bs c :=
  ⟨h.rd.kept hk (fun _ _ e => e), h.aq, h.kept.trans hk (fun _ _ e => e) (fun _ _ e => e.elim)⟩

theorem sum_u64 (A B k v : Nat) (h : A + 2 ^ k * B = v) (hv : v < 4294967296) :
    (IntKind.u64.wrap (IntKind.u64.wrap (A : Int) + IntKind.u64.wrap (IntKind.u64.wrap (B : Int) * 2 ^ k)) != IntKind.u64.wrap (v : Int)) = false := by
  have hp : 0 < 2 ^ k := Nat.two_pow_pos k
  have hB : B ≤ 2 ^ k * B := Nat.le_mul_of_pos_left _ hp
  have e : ((B : Int) * 2 ^ k) = ((2 ^ k * B : Nat) : Int) := by simp [Int.mul_comm]
  simp only [IntKind.wrap_u64]
  rw [show ((B : Int) % 18446744073709551616) = (B : Int) by omega, e, show ((A : Int) % 18446744073709551616) = (A : Int) by omega]
  generalize 2 ^ k * B = Z at *
  simp
  omega

set_option maxHeartbeats 2000000 in
set_option maxRecDepth 100000 in
theorem round_walk (w : World) (a : Option Addr) (len cap : Nat) (K : Nat → Int) (V : Nat → Nat) (N : Nat → Int) (cut : Int) (hlen : len ≤ 5000) (hops : OpsAt w a len K V N) :
    Calls Try.prog 5 #[.slice a len cap, .int .i64 cut] w fun e w' => e = .returned (.bool true) ∧ Below w.heap.size w w' := by
  have hd1 : decide (5000 < (len : Int)) = false := by simp; omega
  have HO : Hid (OpsAt w a len K V N) := hops
  clear hops
  go_enter Try.func5, Try.ntmps5
  go_wp2_with fail
  refine (newWriter_any _).mono ?_
  rintro e w1 ⟨rfl, hw1, hk1, hs1⟩
  have O1 : Hid (One w w1 w.heap.size (.slice none 0 0) 0 0) := by
    refine ⟨hw1, ?_, hk1.mono (fun _ _ e => e.elim)⟩
    intro k h2
    rcases h2 with e | e
    · omega
    · cases e
  clear hw1 hk1 hs1
  go_wp2_with fail
  go_loopg [6] len (fun k i wr => ∃ (j : Nat) (s : Value), j ≤ len ∧ len - j ≤ k ∧ i = .int .i64 (j : Nat) ∧ One w wr w.heap.size s (accX V N j) (accC V N j))
  case atStart => exact ⟨0, _, by omega, by omega, rfl, O1.out⟩
  case round =>
    obtain ⟨j, s, hj, hjk, rfl, hO⟩ := hrel
    have HN : Hid (One w wr w.heap.size s (accX V N j) (accC V N j)) := hO
    have hOps := HO.out.kept (Nat.le_refl _) hO.kept
    have hcl := accC_le V N j
    clear hO O1
    by_cases hlt : j < len
    · obtain ⟨hv, b, o, rfl, c0, c1, c2⟩ := hOps j hlt
      obtain ⟨v, hV⟩ : ∃ v, v = V j := ⟨_, rfl⟩
      obtain ⟨n, hN⟩ : ∃ n, n = N j := ⟨_, rfl⟩
      rw [← hV] at c1 hv
      rw [← hN] at c2
      have HP := put_any w.heap.size v n _ _ s wr.drew (HN.out.draw 1).wr (by omega)
      have HV : Hid (v = V j) := hV
      have HNN : Hid (n = N j) := hN
      clear hOps c0 hV hN
      go_wp2_with fail
      go_region_with (go_at_call 11; refine HP.mono ?_; rintro e w' ⟨rfl, hw'⟩)
      all_goals
        obtain ⟨s2, hw2, hk2, hg2⟩ := hw'
        have R : Hid (One w w' w.heap.size s2 (accX V N (j + 1)) (accC V N (j + 1))) := by
          have h := (HN.out.draw 1).put hw2 hk2 hg2
          rw [HV.out, HNN.out] at h
          exact h
        clear hw2 hk2 hg2 HP HN c1 c2
        go_wp2_with fail
        go_roundg (gk - 1)
        case measure => omega
        case rel => exact ⟨j + 1, s2, by omega, by omega, by go_num, R.out⟩
    · have hjl : j = len := by omega
      subst hjl
      go_wp2_with fail
      refine (wbytes_any _ _ _ _ _ HN.out.wr (by omega)).mono ?_
      rintro e w2 ⟨g, bs, rfl, hrow, hb8, hbX, hbl, hk2, hg2⟩
      have hkk : Kept (Above w.heap.size) w w2 := HN.out.kept.trans hk2 (fun _ _ e => e) (fun _ _ e => e.elim)
      have hle : bs.length ≤ 100000 := by omega
      have HX : Hid (n256 bs = accX V N j) := hbX
      have HBL : Hid (bs.length = (accC V N j + 7) / 8) := hbl
      clear hbX hbl
      go_wp2_with fail
      refine (newReader_any _ _ bs _ (Src.ofRow hrow) (by omega) hb8).mono ?_
      rintro e w3 ⟨q, t, rfl, hr3, hk3, hf3⟩
      have hsz2 := hkk.size
      have T3 : Hid (Rds w w3 q t bs 0) := ⟨hr3, fun k hk => Nat.le_trans hsz2 (hf3 k hk), hkk.trans hk3 (fun _ _ e => e) (fun _ _ e => e.elim)⟩
      clear hr3 hk3 hf3 hsz2 hkk hrow hb8 hk2 hg2 HN hOps
      go_wp2_with fail
      go_loopg [8] j (fun k x wr => ∃ i : Nat, i ≤ j ∧ j - i ≤ k ∧ x = .int .i64 (i : Nat) ∧ Rds w wr q t bs (accC V N i))
      case atStart => exact ⟨0, by omega, by omega, rfl, T3.out⟩
      case round =>
        obtain ⟨i, hi, hik, rfl, hR⟩ := hrel
        have hOps := HO.out.kept (Nat.le_refl _) hR.kept
        have HR : Hid (Rds w wr q t bs (accC V N i)) := hR
        have HCL : Hid (accC V N i ≤ 32 * i) := accC_le V N i
        have hcj : accC V N i ≤ accC V N j := accC_mono V N hi
        have HCJ : Hid (accC V N i ≤ accC V N j) := hcj
        clear T3 hR hcl hcj
        by_cases hlt : i < j
        · obtain ⟨hv, b, o, rfl, c0, c1, c2⟩ := hOps i hlt
          obtain ⟨v, hV⟩ : ∃ v, v = V i := ⟨_, rfl⟩
          obtain ⟨n, hN⟩ : ∃ n, n = N i := ⟨_, rfl⟩
          have HCE : Hid (∀ w', Kept (Above w.heap.size) w w' → w'.cell? ⟨b, o + i * 3 + 1, none⟩ = some (.int .u32 (v : Nat)) ∧ w'.cell? ⟨b, o + i * 3 + 2, none⟩ = some (.int .i64 n)) := by
            intro w' hk
            obtain ⟨_, b', o', e1, _, e2, e3⟩ := HO.out.kept (Nat.le_refl _) hk i hlt
            simp only [Option.some.injEq, Addr.mk.injEq, and_true] at e1
            obtain ⟨rfl, rfl⟩ := e1
            rw [hV, hN]
            exact ⟨e2, e3⟩
          have HM := fun w' => may_any v n w' (by rw [hV]; exact hv)
          rw [← hV] at c1
          rw [← hN] at c2
          have HV : Hid (v = V i) := hV
          have HNN : Hid (n = N i) := hN
          clear hOps c0 hV hN hv
          by_cases hm : mayB v n = true
          · obtain ⟨hn0, hn1, hn2⟩ := mayB_true hm
            obtain ⟨m, rfl⟩ : ∃ m : Nat, n = m := ⟨n.toNat, by omega⟩
            simp only [Int.toNat_natCast] at hn2
            have hcn : accC V N (i + 1) = accC V N i + m := by simp only [accC, putN]; rw [← HV.out, ← HNN.out, hm]; simp
            have hcb : accC V N i + m ≤ 8 * bs.length := by
              have h1 := accC_mono V N (show i + 1 ≤ j from hlt)
              have h2 := HBL.out
              omega
            have hval : n256 bs / 2 ^ accC V N i % 2 ^ m = v := by
              rw [HX.out, HV.out]
              have := accX_take V N hlt (by rw [← HV.out, ← HNN.out]; exact hm)
              rw [← HNN.out, Int.toNat_natCast] at this
              exact this
            have hclb := HCL.out
            obtain ⟨c, hc⟩ : ∃ c, c = accC V N i := ⟨_, rfl⟩
            have HR2 : Hid (Rds w wr q t bs c) := by rw [hc]; exact HR.out
            have HN1 : Hid (accC V N (i + 1) = c + m) := by rw [hc]; exact hcn
            have HVAL : Hid (n256 bs / 2 ^ c % 2 ^ m = v) := by rw [hc]; exact hval
            have hcb2 : c + m ≤ 8 * bs.length := by rw [hc]; exact hcb
            have hcl2 : c ≤ 160000 := by omega
            clear hcn hcb hval hclb hc HR HCL HCJ HV HNN
            by_cases hq0 : 0 ≤ cut
            · have hdq0 : decide (0 ≤ cut) = true := by simpa using hq0
              by_cases hq1 : cut ≤ (m : Int)
              · obtain ⟨k, rfl⟩ : ∃ k : Nat, cut = k := ⟨cut.toNat, by omega⟩
                have hkm : k ≤ m := by omega
                have hdq1 : decide ((k : Int) ≤ (m : Int)) = true := by simpa using hkm
                go_wp2_with fail
                go_quiet ((go_at_call 9; exact Calls.quiet_of_same (HM _)))
                go_wp2_with fail
                refine (take_at (V := (v : Nat)) q c m t bs _ rfl (HR2.out.rd.drewN _) (by omega) (by omega) hcb2 (by rw [HVAL.out])).mono ?_
                rintro e w5 ⟨rfl, hr5, hk5⟩
                have T5 : Hid (Rds w w5 q t bs (c + m)) := (HR2.out.draw _).step hr5 hk5
                obtain ⟨e2, e3⟩ := HCE.out w5 T5.out.kept
                clear hr5 hk5 HR2 HM c1 c2
                go_wp2_with fail
                refine (back_good q (c + m) m t bs _ T5.out.rd (by omega) (by omega)).mono ?_
                rintro e w6 ⟨rfl, hr6, hk6⟩
                rw [Nat.add_sub_cancel] at hr6
                have T6 : Hid (Rds w w6 q t bs c) := T5.out.step hr6 hk6
                clear hr6 hk6 T5 e2 e3
                go_wp2_with fail
                obtain ⟨A, hA⟩ : ∃ A, A = n256 bs / 2 ^ c % 2 ^ k := ⟨_, rfl⟩
                refine (take_at (V := (A : Nat)) q c k t bs _ rfl T6.out.rd (by omega) (by omega) (by omega) (by rw [hA])).mono ?_
                rintro e w7 ⟨rfl, hr7, hk7⟩
                have T7 : Hid (Rds w w7 q t bs (c + k)) := T6.out.step hr7 hk7
                obtain ⟨e2, e3⟩ := HCE.out w7 T7.out.kept
                have HA : Hid (A = n256 bs / 2 ^ c % 2 ^ k) := hA
                clear hr7 hk7 T6 hA
                go_wp2_with fail
                obtain ⟨B, hB⟩ : ∃ B, B = n256 bs / 2 ^ (c + k) % 2 ^ (m - k) := ⟨_, rfl⟩
                refine (take_at (V := (B : Nat)) q (c + k) (m - k) t bs _ (by omega) T7.out.rd (by omega) (by omega) (by omega) (by rw [hB])).mono ?_
                rintro e w8 ⟨rfl, hr8, hk8⟩
                have T8 : Hid (Rds w w8 q t bs (c + m)) := by
                  have h := T7.out.step hr8 hk8
                  rw [show c + k + (m - k) = c + m by omega] at h
                  exact h
                have HB : Hid (B = n256 bs / 2 ^ (c + k) % 2 ^ (m - k)) := hB
                have hsum : A + 2 ^ k * B = v := by
                  have h := more_bits (n256 bs / 2 ^ c) k (m - k)
                  rw [show k + (m - k) = m by omega, HVAL.out, Nat.div_div_eq_div_mul, ← Nat.pow_add, ← HA.out, ← HB.out] at h
                  exact h.symm
                have hfin := sum_u64 A B k v hsum (Nat.lt_of_lt_of_le hn2 (Nat.le_trans (Nat.pow_le_pow_right (by omega) (show m ≤ 32 by omega)) (by decide)))
                clear hr8 hk8 T7 hB e2 e3 hsum
                go_wp2_with fail
                go_roundg (gk - 1)
                case measure => omega
                case rel => exact ⟨i + 1, by omega, by omega, by go_num, by rw [HN1.out]; exact T8.out⟩
              · have hdq1 : decide (cut ≤ (m : Int)) = false := by simpa using hq1
                go_wp2_with fail
                go_quiet ((go_at_call 9; exact Calls.quiet_of_same (HM _)))
                go_wp2_with fail
                refine (take_at (V := (v : Nat)) q c m t bs _ rfl (HR2.out.rd.drewN _) (by omega) (by omega) hcb2 (by rw [HVAL.out])).mono ?_
                rintro e w5 ⟨rfl, hr5, hk5⟩
                have T5 : Hid (Rds w w5 q t bs (c + m)) := (HR2.out.draw _).step hr5 hk5
                obtain ⟨e2, e3⟩ := HCE.out w5 T5.out.kept
                clear hr5 hk5 HR2 HM c1 c2
                go_wp2_with fail
                go_roundg (gk - 1)
                case measure => omega
                case rel => exact ⟨i + 1, by omega, by omega, by go_num, by rw [HN1.out]; exact T5.out⟩
            · have hdq0 : decide (0 ≤ cut) = false := by simpa using hq0
              go_wp2_with fail
              go_quiet ((go_at_call 9; exact Calls.quiet_of_same (HM _)))
              go_wp2_with fail
              refine (take_at (V := (v : Nat)) q c m t bs _ rfl (HR2.out.rd.drewN _) (by omega) (by omega) hcb2 (by rw [HVAL.out])).mono ?_
              rintro e w5 ⟨rfl, hr5, hk5⟩
              have T5 : Hid (Rds w w5 q t bs (c + m)) := (HR2.out.draw _).step hr5 hk5
              obtain ⟨e2, e3⟩ := HCE.out w5 T5.out.kept
              clear hr5 hk5 HR2 HM c1 c2
              go_wp2_with fail
              go_roundg (gk - 1)
              case measure => omega
              case rel => exact ⟨i + 1, by omega, by omega, by go_num, by rw [HN1.out]; exact T5.out⟩
          · have hm' : mayB v n = false := by simpa using hm
            clear hm
            go_wp2_with fail
            go_quiet ((go_at_call 9; exact Calls.quiet_of_same (HM _)))
            go_wp2_with fail
            go_roundg (gk - 1)
            case measure => omega
            case rel => exact ⟨i + 1, by omega, by omega, by go_num, by simp only [accC, putN]; rw [← HV.out, ← HNN.out, hm']; exact HR.out.draw _⟩
        · have hij : i = j := by omega
          subst hij
          go_wp2_with fail
          refine (awake_any _).mono ?_
          rintro e w5 ⟨rfl, hb5⟩
          have T5 : Hid (Rds w w5 q t bs (accC V N i)) := HR.out.fresh (below_kept hb5 _)
          have h1 := HBL.out
          have hLL : 8 * bs.length - accC V N i < 8 := by omega
          have HL5 := left_any q _ t bs w5 T5.out.rd (by omega) (by omega)
          obtain ⟨L, hL⟩ : ∃ L, L = 8 * bs.length - accC V N i := ⟨_, rfl⟩
          rw [← hL] at hLL HL5
          have hdL : decide ((L : Int) < 8) = true := by simp; omega
          clear hb5 h1 hL hLL hOps
          go_wp2_with fail
          refine HL5.mono ?_
          rintro e w6 ⟨rfl, m6, rfl⟩
          go_wp2_with fail
          go_ret
          exact ⟨rfl, kept_below (T5.out.kept.drewN _)⟩
end Go.Proofs.Ytlbolkifdghhnaa
