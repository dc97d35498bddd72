/-
  Layer 16: Issue.
-/
import Derived.Test.YtfhfnkhiomahfaaGreatDoorTkF
namespace Go.Proofs.YtfhfnkhiomahfaaGreatDoor
open Go.RowKit Go.Maps Go.Shelf

theorem Blk.c1 {w : World} {g : Nat} {a : Value} {t : TypeId} (hb : Blk w g #[a] t) : w.cell? ⟨g, 0, none⟩ = some a ∧ w.frozen? ⟨g, 0, none⟩ = false := ⟨hb.cell 0, hb.frozen 0⟩

theorem issue_nil (w : World) (t : ByteArray) (u : Int) : Calls Tryz.prog 17 #[.pointer none, .string t, .int .i64 u] w fun e w' => e = .returned (.tuple #[.string ⟨#[]⟩, .int .i64 3]) ∧ Same w w' := by
  go_enter Tryz.func17, Tryz.ntmps17
  go_wp2_with fail
  go_ret2
  exact ⟨rfl, Kept.refl _ _⟩

section
variable {w : World} {p mt mr n : Nat} {T : List (Nm × ByteArray)} {R : List (Nb × Unit)}

set_option maxRecDepth 100000 in
set_option maxHeartbeats 400000 in
theorem issue_none (h : Bk w p mt mr T n R) (t : Nm) (hg : getG t T = none) (u : Int) : Calls Tryz.prog 17 #[.pointer (some ⟨p, 0, none⟩), .string t.s, .int .i64 u] w fun e w' => e = .returned (.tuple #[.string ⟨#[]⟩, .int .i64 170]) ∧ Same w w' := by
  have hlk := MpH.look1 h.ten t
  rw [hg] at hlk
  simp only [Option.elim, Option.isSome, hoV] at hlk
  obtain ⟨x0, _, _, _, _, _⟩ := h.blk.c3
  clear h hg
  go_enter Tryz.func17, Tryz.ntmps17
  go_wp2_with fail
  go_ret2
  exact ⟨rfl, (Kept.refl _ _).alloc _⟩

set_option maxRecDepth 100000 in
set_option maxHeartbeats 400000 in
theorem issue_late (h : Bk w p mt mr T n R) (t : Nm) (k : ByteArray) (hg : getG t T = some k) (u : Int) (hu : decide (0 ≤ u ∧ u ≤ 1000000000) = false) : Calls Tryz.prog 17 #[.pointer (some ⟨p, 0, none⟩), .string t.s, .int .i64 u] w fun e w' => e = .returned (.tuple #[.string ⟨#[]⟩, .int .i64 1]) ∧ Same w w' := by
  have hlk := MpH.look1 h.ten t
  rw [hg] at hlk
  simp only [Option.elim, Option.isSome, hoV] at hlk
  obtain ⟨x0, _, _, _, _, _⟩ := h.blk.c3
  obtain ⟨W1, hW1⟩ : ∃ W, W = w.alloc (.cells #[.string k] 74) := ⟨_, rfl⟩
  have HK1 : Hid (Same w W1) := hid (by rw [hW1]; exact (Kept.refl _ w).alloc _)
  have HT := isTime_any W1 u false hu
  clear h hg hu
  go_enter Tryz.func17, Tryz.ntmps17
  go_wp2_with fail
  rw [← hW1]
  clear hW1
  refine HT.mono ?_
  rintro e w2 ⟨rfl, hk2⟩
  have HK2 := hid (Same.trans HK1.out hk2)
  clear hk2 HT
  go_wp2_with fail
  go_ret2
  exact ⟨rfl, HK2.out⟩

set_option maxRecDepth 100000 in
set_option maxHeartbeats 1000000 in
theorem issue_ok {w0 : World} (hW : W6 w0) (hk0 : Same w0 w) (hp : w0.heap.size ≤ p) (h : Bk w p mt mr T n R) (t : Nm) (k : ByteArray) (hg : getG t T = some k) (hs : sho t.s = true) (hk : k.size ≤ 64) (u : Nat) (hu : u ≤ 1000000000) (hn : n < 1000000000) : Calls Tryz.prog 17 #[.pointer (some ⟨p, 0, none⟩), .string t.s, .int .i64 (u : Nat)] w fun e w' => e = .returned (.tuple #[.string (tx6 (tokL t.s u (n + 1) k)), .int .i64 0]) ∧ Bk w' p mt mr T (n + 1) R ∧ Kept (· = p) w w' := by
  have hlk := MpH.look1 h.ten t
  rw [hg] at hlk
  simp only [Option.elim, Option.isSome, hoV] at hlk
  obtain ⟨x0, _, _, _, _, _⟩ := h.blk.c3
  obtain ⟨W1, hW1⟩ : ∃ W, W = w.alloc (.cells #[.string k] 74) := ⟨_, rfl⟩
  obtain ⟨hb, hhb⟩ : ∃ b, b = w.heap.size := ⟨_, rfl⟩
  have HK1 : Hid (Same w W1) := hid (by rw [hW1]; exact (Kept.refl _ w).alloc _)
  have HH1 : Hid (Blk W1 hb #[.string k] 74) := hid (by rw [hW1, hhb]; exact Blk.new w _ _)
  have HPB : Hid (p ≠ hb) := hid (by rw [hhb]; have := h.blk.lt; omega)
  have HT := isTime_any W1 (u : Int) true (by simp; omega)
  have H := hid h
  have hn1 : decide ((1000000000 : Int) ≤ (n : Int)) = false := by simp; omega
  obtain ⟨m, hm⟩ : ∃ m : Nat, m = n + 1 := ⟨_, rfl⟩
  have hm1 : (n : Int) + 1 = (m : Int) := by omega
  have hn2 : IntKind.i64.wrap (m : Int) = (m : Int) := by rw [IntKind.wrap_i64]; omega
  have HM : Hid (mayB t.s (u : Int) (m : Int) = true) := hid (mayB_iff.2 ⟨hs, by omega, by omega⟩)
  have HKZ : Hid (k.size ≤ 64 ∧ t.s.size ≤ 16 ∧ u ≤ 1000000000 ∧ m ≤ 1000000000) := hid ⟨hk, by have h1 := (sho_pt hs).2; have h2 : t.s.data.toList.length = t.s.size := Array.length_toList; omega, hu, by omega⟩
  have HW := hid hW
  have HK0 : Hid (Same w0 w ∧ w0.heap.size ≤ p) := hid ⟨hk0, hp⟩
  rw [← hm]
  obtain ⟨tk, htk⟩ : ∃ x, x = tx6 (tokL t.s u m k) := ⟨_, rfl⟩
  rw [← htk]
  have HTE : Hid (tx6 (bodI t.s u m ++ 46 :: macL k (bodI t.s u m)) = tk) := hid (by rw [htk, bodI_nat]; rfl)
  clear h hg hs hk hu hn hW hk0 hp hm htk
  go_enter Tryz.func17, Tryz.ntmps17
  go_wp2_with fail
  rw [← hW1, ← hhb]
  clear hW1 hhb
  refine HT.mono ?_
  rintro e w2 ⟨rfl, hk2⟩
  have H2 := hid (H.out.same (Same.trans HK1.out hk2))
  have HK2 := hid (Same.trans HK1.out hk2)
  have HH2 := hid (HH1.out.kept hk2 (fun f => f))
  obtain ⟨_, x1, _, _, z1, _⟩ := H2.out.blk.c3
  clear hk2 HT x0 hlk
  go_upto_region 11 with fail
  obtain ⟨W3, hW3⟩ : ∃ W, W = w2.setCell ⟨p, 1, none⟩ (.int .i64 (m : Nat)) := ⟨_, rfl⟩
  rw [← hW3]
  have hkp : Kept (· = p) w2 W3 := by rw [hW3]; exact (Kept.refl _ w2).setCell _ _ (.inl rfl)
  have hb3 : Blk W3 p #[.map (some mt), .int .i64 (m : Nat), .map (some mr)] 72 := by
    rw [hW3]
    have h9 := H2.out.blk.set 1 (.int .i64 (m : Nat))
    simpa using h9
  have HB3 : Hid (Bk W3 p mt mr T m R) := hid ⟨hb3, H2.out.ten.kept hkp (fun e => H2.out.ap1 e.symm), H2.out.rev.kept hkp (fun e => H2.out.ap2 e.symm), H2.out.ap1, H2.out.ap2, H2.out.ap3⟩
  have HH3 := hid (HH2.out.kept hkp (fun e => HPB.out e.symm))
  have HK3 : Hid (Kept (· = p) w W3) := hid (Kept.trans (show Kept (· = p) w w2 from HK2.out.mono (fun _ _ f => f.elim)) hkp (fun _ _ e => e) (fun _ _ e => e))
  have HS3 : Hid (Same w0 W3) := hid (Kept.trans HK0.out.1 HK3.out (fun _ _ f => f) (fun k hk e => by have := HK0.out.2; omega))
  have HL1 : Hid (∀ W, Same W3 W → (loadVar 3 ⟨p, 1, none⟩).run Tryz.prog W = .ok (.int .i64 (m : Nat)) W) := hid (fun W hW => load_cell16 Tryz.underlying3 rfl ((HB3.out.blk.kept hW (fun f => f)).cell 1))
  have HL2 : Hid (∀ W, Same W3 W → (loadVar 9 ⟨hb, 0, none⟩).run Tryz.prog W = .ok (.string k) W) := hid (fun W hW => load_cell16 Tryz.underlying9 rfl ((HH3.out.kept hW (fun f => f)).cell 0))
  have HPR : Hid (∀ W, Same W3 W → Calls Tryz.prog 10 #[clV t.s u m, .string k] W fun e w' => e = .returned (.tuple #[.string tk, .int .i64 0]) ∧ Same W w') := hid (fun W hW' => by
    have h9 := print_ok W (HW.out.same (Same.trans HS3.out hW')) t.s u m k HKZ.out.1 (by have := HKZ.out; omega) (by have := HKZ.out; omega) (by have := HKZ.out; omega) HM.out
    rw [HTE.out] at h9
    exact h9)
  unfold clV at HPR
  clear hW3 hkp hb3 x1 z1
  refine wp_region_same (by kernel_rfl) (by kernel_rfl) ?_
  refine wpq_value rfl (.string t.s) (fun W _ => rfl) ?_
  simp only [Act.put, List.setIfInBounds_toArray, List.set_cons_zero, List.set_cons_succ]
  refine wpq_value rfl (.int .i64 (u : Nat)) (fun W _ => rfl) ?_
  simp only [Act.put, List.setIfInBounds_toArray, List.set_cons_zero, List.set_cons_succ]
  refine wpq_value rfl (.pointer (some ⟨p, 0, none⟩)) (fun W _ => rfl) ?_
  simp only [Act.put, List.setIfInBounds_toArray, List.set_cons_zero, List.set_cons_succ]
  refine wpq_value rfl (.pointer (some ⟨p, 0, none⟩)) (fun W _ => rfl) ?_
  simp only [Act.put, List.setIfInBounds_toArray, List.set_cons_zero, List.set_cons_succ]
  refine wpq_value rfl (.pointer (some ⟨p, 1, none⟩)) (fun W _ => by go_simp) ?_
  simp only [Act.put, List.setIfInBounds_toArray, List.set_cons_zero, List.set_cons_succ]
  refine wpq_value rfl (.int .i64 (m : Nat)) (fun W hW => run_load_op _ rfl (HL1.out W hW)) ?_
  simp only [Act.put, List.setIfInBounds_toArray, List.set_cons_zero, List.set_cons_succ]
  refine wpq_value rfl (.agg #[.string t.s, .int .i64 (u : Nat), .int .i64 (m : Nat)]) (fun W _ => by go_simp) ?_
  simp only [Act.put, List.setIfInBounds_toArray, List.set_cons_zero, List.set_cons_succ]
  refine wpq_value rfl (.pointer (some ⟨hb, 0, none⟩)) (fun W _ => by go_simp) ?_
  simp only [Act.put, List.setIfInBounds_toArray, List.set_cons_zero, List.set_cons_succ]
  refine wpq_value rfl (.string k) (fun W hW => run_load_op _ rfl (HL2.out W hW)) ?_
  simp only [Act.put, List.setIfInBounds_toArray, List.set_cons_zero, List.set_cons_succ]
  refine wpq_call rfl 10 #[.agg #[.string t.s, .int .i64 (u : Nat), .int .i64 (m : Nat)], .string k] (.tuple #[.string tk, .int .i64 0]) (fun W => by go_simp) (calls_same HPR.out) ?_
  simp only [Act.put, List.setIfInBounds_toArray, List.set_cons_zero, List.set_cons_succ]
  refine wpq_value rfl (.string tk) (fun W _ => rfl) ?_
  simp only [Act.put, List.setIfInBounds_toArray, List.set_cons_zero, List.set_cons_succ]
  refine wpq_value rfl (.int .i64 0) (fun W _ => rfl) ?_
  simp only [Act.put, List.setIfInBounds_toArray, List.set_cons_zero, List.set_cons_succ]
  refine wpq_value rfl (.string tk) (fun W _ => rfl) ?_
  simp only [Act.put, List.setIfInBounds_toArray, List.set_cons_zero, List.set_cons_succ]
  refine wpq_value rfl (.int .i64 0) (fun W _ => rfl) ?_
  simp only [Act.put, List.setIfInBounds_toArray, List.set_cons_zero, List.set_cons_succ]
  refine wpQuiet_nil ?_
  intro w9 hk9
  have HB9 := hid (HB3.out.same hk9)
  have HK9 : Hid (Kept (· = p) w w9) := hid (Kept.trans HK3.out hk9 (fun _ _ e => e) (fun _ _ f => f.elim))
  clear hk9
  go_wp2_with fail
  go_ret2
  exact ⟨rfl, HB9.out, HK9.out⟩

end

end Go.Proofs.YtfhfnkhiomahfaaGreatDoor
