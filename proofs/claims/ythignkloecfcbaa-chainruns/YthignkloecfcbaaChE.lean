/-
  Layer 12: Get and Last.
-/
import Derived.Test.YthignkloecfcbaaChD
namespace Go.Proofs.Ythignkloecfcbaa
open Go.RowKit Go.Maps Go.Sort

/-- What Get tells. -/
def getA (l : List Ver) (t : Int) : Value := .tuple #[.string (newV l t).data, .bool (newV l t).there]

/-- A field of a version. -/
theorem fieldV (w : World) (y : Int) (b c : Value) : (Instr.field 75 (.agg #[.int .i64 y, b, c]) 0).run Try.prog w = .ok (.int .i64 y) w := by kernel_rfl
theorem fieldW (w : World) (a : Value) (b : Bool) (c : Value) : (Instr.field 75 (.agg #[a, .bool b, c]) 1).run Try.prog w = .ok (.bool b) w := by kernel_rfl

theorem newV_nil (t : Int) : newV [] t = ver0 := rfl

/-- The chain of an entry, or none. -/
theorem Ck.chain {K N : Nat} {w : World} {p : Nat} {s : Cs} {ρ : Nat → Nat} {mb : Nat} (h : Ck K N w p s ρ mb) (b : Bx) (n : Nm) :
    (fndC s b n = none ∧ vers s b n = []) ∨ ∃ c, fndC s b n = some c ∧ ρ c = 4 ∧ ChAt N w ρ c (vers s b n) ∧ RisV (vers s b n) ∧ (vers s b n).length ≤ 100000 := by
  cases hf : fndC s b n with
  | none => exact .inl ⟨rfl, by unfold vers; rw [hf]; rfl⟩
  | some c =>
    have hc := h.fnd hf
    have hv : vers s b n = s.vr c := by unfold vers; rw [hf]; rfl
    rw [hv]
    exact .inr ⟨c, rfl, hc, h.cm c hc, (h.okv c hc).ris, Nat.le_trans (h.lens.2.2 c hc) h.big⟩

theorem ChAt.same {N : Nat} {w w' : World} {ρ : Nat → Nat} {c : Nat} {l : List Ver} (h : ChAt N w ρ c l) (hk : Same w w') : ChAt N w' ρ c l := by
  obtain ⟨v, h1, h2, h3⟩ := h
  exact ⟨v, h1.kept hk (fun f => f), h2.kept hk (fun _ _ f => f), h3⟩

set_option maxHeartbeats 400000 in
theorem get_nil (w : World) (a b c : ByteArray) (t : Int) :
    Calls Try.prog 14 #[.pointer none, .agg #[.string a, .string b, .string c], .int .i64 t] w fun e w' => e = .returned (.tuple #[.string ⟨#[]⟩, .bool false]) ∧ Same w w' := by
  have HF : Hid (∀ w', Calls Try.prog 32 #[.pointer none, .agg #[.string a, .string b, .string c]] w' fun e w2 => e = .returned (.pointer none) ∧ Same w' w2) := hid (fun w' => find_nil w' a b c)
  go_enter Try.func14, Try.ntmps14
  go_wp2_with fail
  refine (HF.out _).mono ?_
  rintro e w1 ⟨rfl, hk⟩
  go_wp2_with fail
  go_ret2
  exact ⟨rfl, Same.trans ((Kept.refl _ w).alloc _) hk⟩

set_option maxHeartbeats 400000 in
theorem last_nil (w : World) (a b c : ByteArray) :
    Calls Try.prog 23 #[.pointer none, .agg #[.string a, .string b, .string c]] w fun e w' => e = .returned (.int .i64 0) ∧ Same w w' := by
  have HF : Hid (∀ w', Calls Try.prog 32 #[.pointer none, .agg #[.string a, .string b, .string c]] w' fun e w2 => e = .returned (.pointer none) ∧ Same w' w2) := hid (fun w' => find_nil w' a b c)
  go_enter Try.func23, Try.ntmps23
  go_wp2_with fail
  refine (HF.out _).mono ?_
  rintro e w1 ⟨rfl, hk⟩
  go_wp2_with fail
  go_ret
  exact ⟨rfl, Same.trans ((Kept.refl _ w).alloc _) hk⟩

set_option maxRecDepth 100000 in
set_option maxHeartbeats 1000000 in
theorem get_any {K N : Nat} {w : World} {p : Nat} {s : Cs} {ρ : Nat → Nat} {mb : Nat} (h : Ck K N w p s ρ mb) (b : Bx) (n : Nm) (t : Int) :
    Calls Try.prog 14 #[.pointer (some ⟨p, 0, none⟩), .agg #[.string b.tn, .string b.ar, .string n.s], .int .i64 t] w fun e w' => e = .returned (getA (vers s b n) (max t s.floor)) ∧ Same w w' := by
  obtain ⟨wA, hwA⟩ : ∃ W, W = w.alloc (.cells #[.string b.tn, .string b.ar, .string n.s] 36) := ⟨_, rfl⟩
  have hka : Same w wA := by rw [hwA]; exact (Kept.refl _ w).alloc _
  have HA : Hid (Ck K N wA p s ρ mb) := hid (h.same hka)
  have HKA : Hid (Same w wA) := hka
  have HF := find_any HA.out b n
  rcases HA.out.chain b n with ⟨e1, e2⟩ | ⟨c, e1, hc, hca, hri, hle⟩
  · rw [e1] at HF
    have HR : Hid (getA (vers s b n) (max t s.floor) = .tuple #[.string ⟨#[]⟩, .bool false]) := hid (by rw [e2]; rfl)
    unfold ptO at HF
    simp only [Option.map_none] at HF
    clear h hka e1 e2
    go_enter Try.func14, Try.ntmps14
    go_wp2_with fail
    rw [← hwA]
    refine HF.mono ?_
    rintro e w1 ⟨rfl, hk⟩
    go_wp2_with fail
    go_ret2
    exact ⟨by rw [HR.out]; rfl, HKA.out.trans hk⟩
  · rw [e1] at HF
    unfold ptO at HF
    simp only [Option.map_some] at HF
    obtain ⟨fl, hfl⟩ : ∃ f, f = s.floor := ⟨_, rfl⟩
    have HFL : Hid (fl = s.floor) := hfl
    obtain ⟨mx, hmx⟩ : ∃ m, m = max t fl := ⟨_, rfl⟩
    have HN : Hid (∀ w', Same wA w' → Calls Try.prog 33 #[.pointer (some ⟨c, 0, none⟩), .int .i64 mx] w' fun e w2 => e = .returned (verV (newV (vers s b n) mx)) ∧ Same w' w2) := hid (fun w' hk => newest_any (hca.same hk) hri hle mx)
    obtain ⟨y, hy⟩ : ∃ y, y = newV (vers s b n) mx := ⟨_, rfl⟩
    rw [← hy] at HN
    have HR : Hid (getA (vers s b n) (max t s.floor) = .tuple #[.string y.data, .bool y.there]) := hid (by rw [← hfl, ← hmx]; unfold getA; rw [hy])
    have p1 : wA.cell? ⟨p, 1, none⟩ = some (.int .i64 fl) := by rw [hfl]; exact HA.out.blk.cell 1
    have HP1 := hid p1
    have HMX : Hid (mx = max t fl) := hmx
    clear h hka e1 hc hca hri hle hy hfl p1 hmx
    rw [HR.out]
    go_enter Try.func14, Try.ntmps14
    go_wp2_with fail
    rw [← hwA]
    clear hwA
    refine HF.mono ?_
    rintro e w1 ⟨rfl, hk⟩
    have p1 := hk.cell HP1.out (fun f => f)
    have HK1 : Hid (Same wA w1) := hk
    have HN1 := HN.out w1 hk
    rw [HMX.out] at HN1
    unfold verV at HN1
    clear hk HF
    go_wp2_with fail
    refine HN1.mono ?_
    rintro e w2 ⟨rfl, hk2⟩
    have HK2 : Hid (Same w1 w2) := hk2
    clear hk2 HN1
    go_wp2_with fail
    go_quiet (fail)
    go_wp2_with fail
    go_ret2
    exact ⟨rfl, (((HKA.out.trans HK1.out).trans HK2.out).alloc _).drewN _⟩

set_option maxRecDepth 100000 in
set_option maxHeartbeats 1000000 in
theorem last_any {K N : Nat} {w : World} {p : Nat} {s : Cs} {ρ : Nat → Nat} {mb : Nat} (h : Ck K N w p s ρ mb) (b : Bx) (n : Nm) :
    Calls Try.prog 23 #[.pointer (some ⟨p, 0, none⟩), .agg #[.string b.tn, .string b.ar, .string n.s]] w fun e w' => e = .returned (.int .i64 (newV (vers s b n) s.now).t) ∧ Same w w' := by
  obtain ⟨wA, hwA⟩ : ∃ W, W = w.alloc (.cells #[.string b.tn, .string b.ar, .string n.s] 36) := ⟨_, rfl⟩
  have hka : Same w wA := by rw [hwA]; exact (Kept.refl _ w).alloc _
  have HA : Hid (Ck K N wA p s ρ mb) := hid (h.same hka)
  have HKA : Hid (Same w wA) := hka
  have HF := find_any HA.out b n
  rcases HA.out.chain b n with ⟨e1, e2⟩ | ⟨c, e1, hc, hca, hri, hle⟩
  · rw [e1] at HF
    have HR : Hid (newV (vers s b n) s.now = ver0) := hid (by rw [e2]; rfl)
    unfold ptO at HF
    simp only [Option.map_none] at HF
    clear h hka e1 e2
    go_enter Try.func23, Try.ntmps23
    go_wp2_with fail
    rw [← hwA]
    refine HF.mono ?_
    rintro e w1 ⟨rfl, hk⟩
    go_wp2_with fail
    go_ret
    exact ⟨by rw [HR.out]; rfl, HKA.out.trans hk⟩
  · rw [e1] at HF
    unfold ptO at HF
    simp only [Option.map_some] at HF
    obtain ⟨mx, hmx⟩ : ∃ m, m = s.now := ⟨_, rfl⟩
    have HN : Hid (∀ w', Same wA w' → Calls Try.prog 33 #[.pointer (some ⟨c, 0, none⟩), .int .i64 mx] w' fun e w2 => e = .returned (verV (newV (vers s b n) mx)) ∧ Same w' w2) := hid (fun w' hk => newest_any (hca.same hk) hri hle mx)
    obtain ⟨y, hy⟩ : ∃ y, y = newV (vers s b n) mx := ⟨_, rfl⟩
    rw [← hy] at HN
    have HR : Hid (newV (vers s b n) s.now = y) := hid (by rw [← hmx, hy])
    have HP1 : Hid (wA.cell? ⟨p, 0, none⟩ = some (.int .i64 mx)) := hid (by rw [hmx]; exact HA.out.blk.cell 0)
    have hfld := fieldV
    clear h hka e1 hc hca hri hle hy hmx
    rw [HR.out]
    go_enter Try.func23, Try.ntmps23
    go_wp2_with fail
    rw [← hwA]
    clear hwA
    refine HF.mono ?_
    rintro e w1 ⟨rfl, hk⟩
    have p1 := hk.cell HP1.out (fun f => f)
    have HK1 : Hid (Same wA w1) := hk
    have HN1 := HN.out w1 hk
    unfold verV at HN1
    clear hk HF
    go_wp2_with fail
    refine HN1.mono ?_
    rintro e w2 ⟨rfl, hk2⟩
    have HK2 : Hid (Same w1 w2) := hk2
    clear hk2 HN1
    go_wp2_with fail
    go_ret
    exact ⟨rfl, (HKA.out.trans HK1.out).trans HK2.out⟩

end Go.Proofs.Ythignkloecfcbaa
