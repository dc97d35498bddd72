/-
  The law's 'step': one call on a reader, held against the bits.
-/
import Derived.Test.YtlbolkifdghhnaaOf
import Derived.Test.YtlbolkifdghhnaaTwo
namespace Go.Proofs.Ytlbolkifdghhnaa
open Go.RowKit

/-- A reader and the row of bits that it reads. -/
structure Look (w : World) (q : Nat) (t : Value) (bs : List Nat) (c : Nat) (vl : Value) (ls : List Nat) : Prop where
  rd : St w q t bs c
  row : Row w vl ls
  bit : ∀ b ∈ ls, b < 2
  num : n2 ls = n256 bs
  len : ls.length = 8 * bs.length
  le : c ≤ ls.length

theorem drew_kept {F : Nat → Prop} {w w' : World} {m : Nat} (h : Kept F (w.drewN m) w') : Kept F w w' := ⟨h.os, h.tape, h.output, h.size, h.block⟩

theorem alloc_kept {F : Nat → Prop} {w w' : World} {o : Obj} (h : Kept F (w.alloc o) w') : Kept F w w' :=
  ((Kept.refl F w).alloc o).trans h (fun _ _ e => e) (fun _ _ e => e)

set_option maxHeartbeats 2000000 in
set_option maxRecDepth 100000 in
theorem step_take (w : World) (q c : Nat) (n : Int) (t vl : Value) (bs ls : List Nat) (ab : Option Addr) (nb cb : Nat) (h : Look w q t bs c vl ls) (hlen : bs.length ≤ 100000000000) (hne : vl.ownBlock ≠ some q) :
    Calls Try.prog 25 #[.pointer (some ⟨q, 0, none⟩), vl, .int .i64 (c : Nat), .agg #[.int .i64 1, .int .i64 n, .slice ab nb cb]] w fun e w' =>
      ∃ c' : Nat, e = .returned (.tuple #[.int .i64 (c' : Nat), .bool true]) ∧ St w' q t bs c' ∧ c' ≤ ls.length ∧ Kept (· = q) w w' := by
  have HA : Hid (Look (w.alloc (.cells #[.int .i64 1, .int .i64 n, .slice ab nb cb] 43)) q t bs c vl ls) := by
    have hk : Kept (fun _ => False) w (w.alloc (.cells #[.int .i64 1, .int .i64 n, .slice ab nb cb] 43)) := (Kept.refl _ w).alloc _
    exact ⟨h.rd.kept hk (fun _ _ e => e), h.row.kept hk (fun _ _ e => e), h.bit, h.num, h.len, h.le⟩
  have hq : q < w.heap.size := h.rd.lt
  have hl := h.len
  have hle := h.le
  have HH : Hid (Look w q t bs c vl ls) := h
  have HNE : Hid (vl.ownBlock ≠ some q) := hne
  obtain ⟨ao, cp, hu, _⟩ := h.row.shape
  obtain ⟨L, hL⟩ : ∃ L, L = ls.length := ⟨_, rfl⟩
  have HL : Hid (L = ls.length) := hL
  rw [← hL] at hu hl hle
  subst hu
  have hL2 : L ≤ 800000000000 := by omega
  have hlL : L = 8 * bs.length := hl
  have HLL : Hid (L = 8 * bs.length) := hl
  clear h hne hL hl
  by_cases hf : 0 ≤ n ∧ n ≤ 32
  · obtain ⟨m, rfl⟩ : ∃ m : Nat, n = m := ⟨n.toNat, by omega⟩
    have hm : m ≤ 32 := by omega
    have hd1 : decide ((m : Int) < 0) = false := by simp
    have hd2 : decide (32 < (m : Int)) = false := by simp; omega
    clear hf
    by_cases he : c + m ≤ L
    · have hd3 : decide ((L : Int) - (c : Int) < (m : Int)) = false := by simp; omega
      obtain ⟨V, hV⟩ : ∃ V, V = n256 bs / 2 ^ c % 2 ^ m := ⟨_, rfl⟩
      have HV : Hid (V = n256 bs / 2 ^ c % 2 ^ m) := hV
      clear hlL
      go_enter Try.func25, Try.ntmps25
      go_wp2_with fail
      refine (take_at (V := (V : Nat)) q c m t bs _ rfl HA.out.rd (by omega) hm (by have := HLL.out; omega) (by rw [HV.out])).mono ?_
      rintro e w2 ⟨rfl, hr2, hk2⟩
      have e1 : w2.cell? ⟨w.heap.size, 1, none⟩ = some (.int .i64 (m : Nat)) := hk2.cell (by simp) (fun e => by simp at e; omega)
      have HROW : Hid (Row w2 (.slice ao L cp) ls) := HA.out.row.kept hk2 (fun k hk e => HNE.out (by rw [hk, e]))
      have HR2 : Hid (St w2 q t bs (c + m)) := hr2
      have HK2 : Hid (Kept (· = q) w w2) := alloc_kept hk2
      have HNUM : ∀ w', Hid (Row w' (.slice ao L cp) ls) → Calls Try.prog 33 #[.slice ao L cp, .int .i64 (c : Nat), .int .i64 (m : Nat)] w' fun e w'' => e = .returned (.int .u32 (V : Nat)) ∧ w'' = w' := by
        intro w' hr
        have h := refNumber_any w' _ _ ls (Src.ofRow hr.out) HH.out.bit c m hm (by rw [← HL.out]; exact he) (by rw [← HL.out]; omega)
        rw [HH.out.num, ← HV.out] at h
        exact h
      clear hr2 hk2 hV
      go_wp2_with fail
      go_quiet ((go_at_call 33; exact Calls.quiet_of_same (HNUM _ HROW)))
      go_wp2_with fail
      go_ret2
      exact ⟨c + m, rfl, HR2.out.drewN _, by rw [← HL.out]; exact he, HK2.out.drewN _⟩
    · have hd3 : decide ((L : Int) - (c : Int) < (m : Int)) = true := by simp; omega
      clear hlL
      go_enter Try.func25, Try.ntmps25
      go_wp2_with fail
      refine (take_end_at q c m t bs _ rfl HA.out.rd (by have := HLL.out; omega) (by omega) hm (by have := HLL.out; omega)).mono ?_
      rintro e w2 ⟨rfl, m2, rfl⟩
      go_wp2_with fail
      go_ret2
      exact ⟨c, rfl, HA.out.rd.drewN _, by rw [← HL.out]; exact hle, ((Kept.refl _ w).alloc _).drewN _⟩
  · by_cases h0 : n < 0
    · have hd1 : decide (n < 0) = true := by simpa using h0
      clear hlL
      go_enter Try.func25, Try.ntmps25
      go_wp2_with fail
      refine (take_far q n _ hf).mono ?_
      rintro e w2 ⟨rfl, rfl⟩
      clear hf
      go_wp2_with fail
      go_ret2
      exact ⟨c, rfl, HA.out.rd, by rw [← HL.out]; exact hle, (Kept.refl _ w).alloc _⟩
    · have hd1 : decide (n < 0) = false := by simpa using h0
      have hd2 : decide (32 < n) = true := by simp; omega
      clear hlL
      go_enter Try.func25, Try.ntmps25
      go_wp2_with fail
      refine (take_far q n _ hf).mono ?_
      rintro e w2 ⟨rfl, rfl⟩
      clear hf
      go_wp2_with fail
      go_ret2
      exact ⟨c, rfl, HA.out.rd, by rw [← HL.out]; exact hle, (Kept.refl _ w).alloc _⟩

set_option maxHeartbeats 2000000 in
set_option maxRecDepth 100000 in
theorem step_align (w : World) (q c : Nat) (n : Int) (t vl : Value) (bs ls : List Nat) (ab : Option Addr) (nb cb : Nat) (h : Look w q t bs c vl ls) (hlen : bs.length ≤ 100000000000) :
    Calls Try.prog 25 #[.pointer (some ⟨q, 0, none⟩), vl, .int .i64 (c : Nat), .agg #[.int .i64 2, .int .i64 n, .slice ab nb cb]] w fun e w' =>
      ∃ c' : Nat, e = .returned (.tuple #[.int .i64 (c' : Nat), .bool true]) ∧ St w' q t bs c' ∧ c' ≤ ls.length ∧ Kept (· = q) w w' := by
  have HA : Hid (St (w.alloc (.cells #[.int .i64 2, .int .i64 n, .slice ab nb cb] 43)) q t bs c) := h.rd.kept ((Kept.refl (fun _ => False) w).alloc _) (fun _ _ e => e)
  have hle := h.le
  have HL : Hid (ls.length = 8 * bs.length) := h.len
  have hc : c ≤ 800000000000 := by have := h.len; omega
  have hg : (c + 7) / 8 * 8 ≤ ls.length := by have := h.len; omega
  obtain ⟨E, hE⟩ : ∃ E, E = (c + 7) / 8 * 8 := ⟨_, rfl⟩
  have HE : Hid (E = (c + 7) / 8 * 8) := hE
  have HG : Hid (E ≤ ls.length) := by rw [hE]; exact hg
  have hE1 : c ≤ E := by omega
  have hE2 : E ≤ c + 7 := by omega
  have hE8 : E % 8 = 0 := by omega
  have HE8 : Hid (E % 8 = 0) := hE8
  clear h hg hE hE8 hle
  go_enter Try.func25, Try.ntmps25
  go_wp2_with fail
  go_loopg [2] 7 (fun k x wr => ∃ i : Nat, c ≤ i ∧ i ≤ E ∧ E - i ≤ k ∧ x = .int .i64 (i : Nat) ∧ wr = w.alloc (.cells #[.int .i64 2, .int .i64 n, .slice ab nb cb] 43))
  case atStart => exact ⟨c, by omega, by omega, by omega, rfl, rfl⟩
  case round =>
    obtain ⟨i, hi, hiE, hik, rfl, rfl⟩ := hrel
    by_cases hlt : i < E
    · have hmod : ¬ i % 8 = 0 := by have := HE8.out; have := HE.out; omega
      go_wp2_with fail
      go_roundg (gk - 1)
      case measure => omega
      case rel => exact ⟨i + 1, by omega, by omega, by omega, by go_num, rfl⟩
    · have hiE2 : i = E := by omega
      subst hiE2
      have hmod : i % 8 = 0 := HE8.out
      go_wp2_with fail
      refine (ralign_any q c t bs _ HA.out (by omega)).mono ?_
      rintro e w2 ⟨rfl, hr2, hk2⟩
      go_wp2_with fail
      go_ret2
      exact ⟨i, rfl, by rw [HE.out]; exact hr2, HG.out, alloc_kept hk2⟩

set_option maxHeartbeats 2000000 in
set_option maxRecDepth 100000 in
theorem step_back (w : World) (q c : Nat) (n : Int) (t vl : Value) (bs ls : List Nat) (ab : Option Addr) (nb cb : Nat) (h : Look w q t bs c vl ls) (hlen : bs.length ≤ 100000000000) :
    Calls Try.prog 25 #[.pointer (some ⟨q, 0, none⟩), vl, .int .i64 (c : Nat), .agg #[.int .i64 3, .int .i64 n, .slice ab nb cb]] w fun e w' =>
      ∃ c' : Nat, e = .returned (.tuple #[.int .i64 (c' : Nat), .bool true]) ∧ St w' q t bs c' ∧ c' ≤ ls.length ∧ Kept (· = q) w w' := by
  have HA : Hid (St (w.alloc (.cells #[.int .i64 3, .int .i64 n, .slice ab nb cb] 43)) q t bs c) := h.rd.kept ((Kept.refl (fun _ => False) w).alloc _) (fun _ _ e => e)
  have HLE : Hid (c ≤ ls.length) := h.le
  have hc : c ≤ 800000000000 := by have := h.len; have := h.le; omega
  have hq : q < w.heap.size := h.rd.lt
  clear h
  by_cases hn : n < 0 ∨ (c : Int) < n
  · by_cases h0 : n < 0
    · have hd1 : decide (n < 0) = true := by simpa using h0
      go_enter Try.func25, Try.ntmps25
      go_wp2_with fail
      refine (back_bad q c n t bs _ HA.out hn).mono ?_
      rintro e w2 ⟨rfl, rfl⟩
      clear hn
      go_wp2_with fail
      go_ret2
      exact ⟨c, rfl, HA.out, HLE.out, (Kept.refl _ w).alloc _⟩
    · have hd1 : decide (n < 0) = false := by simpa using h0
      have hd2 : decide ((c : Int) < n) = true := by simp; omega
      go_enter Try.func25, Try.ntmps25
      go_wp2_with fail
      refine (back_bad q c n t bs _ HA.out hn).mono ?_
      rintro e w2 ⟨rfl, rfl⟩
      clear hn
      go_wp2_with fail
      go_ret2
      exact ⟨c, rfl, HA.out, HLE.out, (Kept.refl _ w).alloc _⟩
  · obtain ⟨m, rfl⟩ : ∃ m : Nat, n = m := ⟨n.toNat, by omega⟩
    have hm : m ≤ c := by omega
    have hd1 : decide ((m : Int) < 0) = false := by simp
    have hd2 : decide ((c : Int) < (m : Int)) = false := by simp; omega
    clear hn
    go_enter Try.func25, Try.ntmps25
    go_wp2_with fail
    refine (back_good q c m t bs _ HA.out hm (by omega)).mono ?_
    rintro e w2 ⟨rfl, hr2, hk2⟩
    have e1 : w2.cell? ⟨w.heap.size, 1, none⟩ = some (.int .i64 (m : Nat)) := hk2.cell (by simp) (fun e => by simp at e; omega)
    have HR2 : Hid (St w2 q t bs (c - m)) := hr2
    have HK2 : Hid (Kept (· = q) w w2) := alloc_kept hk2
    clear hr2 hk2
    go_wp2_with fail
    go_ret2
    have ec : (c : Int) - (m : Int) = ((c - m : Nat) : Int) := by omega
    exact ⟨c - m, by rw [← ec]; rfl, HR2.out, by have := HLE.out; omega, HK2.out⟩

set_option maxHeartbeats 2000000 in
set_option maxRecDepth 100000 in
theorem step_none (w : World) (q c : Nat) (κ n : Int) (t vl : Value) (bs ls : List Nat) (ab : Option Addr) (nb cb : Nat) (h : Look w q t bs c vl ls) (h1 : ¬ κ = 1) (h2 : ¬ κ = 2) (h3 : ¬ κ = 3) :
    Calls Try.prog 25 #[.pointer (some ⟨q, 0, none⟩), vl, .int .i64 (c : Nat), .agg #[.int .i64 κ, .int .i64 n, .slice ab nb cb]] w fun e w' =>
      ∃ c' : Nat, e = .returned (.tuple #[.int .i64 (c' : Nat), .bool true]) ∧ St w' q t bs c' ∧ c' ≤ ls.length ∧ Kept (· = q) w w' := by
  have HA : Hid (St (w.alloc (.cells #[.int .i64 κ, .int .i64 n, .slice ab nb cb] 43)) q t bs c) := h.rd.kept ((Kept.refl (fun _ => False) w).alloc _) (fun _ _ e => e)
  have HLE : Hid (c ≤ ls.length) := h.le
  clear h
  go_enter Try.func25, Try.ntmps25
  go_wp2_with fail
  go_ret2
  exact ⟨c, rfl, HA.out, HLE.out, (Kept.refl _ w).alloc _⟩

theorem step_any (w : World) (q c : Nat) (κ n : Int) (t vl : Value) (bs ls : List Nat) (ab : Option Addr) (nb cb : Nat) (h : Look w q t bs c vl ls) (hlen : bs.length ≤ 100000000000) (hne : vl.ownBlock ≠ some q) :
    Calls Try.prog 25 #[.pointer (some ⟨q, 0, none⟩), vl, .int .i64 (c : Nat), .agg #[.int .i64 κ, .int .i64 n, .slice ab nb cb]] w fun e w' =>
      ∃ c' : Nat, e = .returned (.tuple #[.int .i64 (c' : Nat), .bool true]) ∧ St w' q t bs c' ∧ c' ≤ ls.length ∧ Kept (· = q) w w' := by
  by_cases h1 : κ = 1
  · subst h1; exact step_take w q c n t vl bs ls ab nb cb h hlen hne
  · by_cases h2 : κ = 2
    · subst h2; exact step_align w q c n t vl bs ls ab nb cb h hlen
    · by_cases h3 : κ = 3
      · subst h3; exact step_back w q c n t vl bs ls ab nb cb h hlen
      · exact step_none w q c κ n t vl bs ls ab nb cb h h1 h2 h3

end Go.Proofs.Ytlbolkifdghhnaa
