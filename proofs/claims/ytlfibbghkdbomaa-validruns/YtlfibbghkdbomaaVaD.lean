/-
  Layer 13: what was seen; Clash.
-/
import Derived.Test.YtlfibbghkdbomaaVaC
namespace Go.Proofs.Ytlfibbghkdbomaa
open Go.RowKit Go.Maps Go.Sort

/-- Was this entry read, or its archive listed? -/
def sawS (s : Vst) (k : Ke) : Bool := (getG k s.rd).isSome || (getG k.1 s.ls).isSome

section
variable {K : Nat} {w : World} {p mr ml ms : Nat} {s : Vst}

set_option maxRecDepth 100000 in
set_option maxHeartbeats 1000000 in
theorem vsaw_any (h : Vk K w p mr ml ms s) (k : Ke) : Calls Try.prog 32 #[.pointer (some ⟨p, 0, none⟩), .agg #[.string k.1.tn, .string k.1.ar, .string k.2.s]] w fun e w' => e = .returned (.bool (sawS s k)) ∧ Same w w' := by
  obtain ⟨wA, hwA⟩ : ∃ W, W = w.alloc (.cells #[.string k.1.tn, .string k.1.ar, .string k.2.s] 24) := ⟨_, rfl⟩
  obtain ⟨xb, hxb⟩ : ∃ x, x = w.heap.size := ⟨_, rfl⟩
  have HBA : Hid (Blk wA xb #[.string k.1.tn, .string k.1.ar, .string k.2.s] 24) := hid (by rw [hwA, hxb]; exact Blk.new w _ _)
  have hka : Same w wA := by rw [hwA]; exact (Kept.refl _ w).alloc _
  obtain ⟨ok, hok⟩ : ∃ b, b = (getG k s.rd).isSome := ⟨_, rfl⟩
  obtain ⟨ok2, hok2⟩ : ∃ b, b = (getG k.1 s.ls).isSome := ⟨_, rfl⟩
  have HR : Hid (sawS s k = (ok || ok2)) := hid (by unfold sawS; rw [hok, hok2])
  have HL : Hid (∀ w', Same wA w' → (Instr.lookup 60 (.map (some mr)) (.agg #[.string k.1.tn, .string k.1.ar, .string k.2.s]) true).run Try.prog w' = .ok (.tuple #[.agg #[], .bool ok]) w' ∧ (Instr.lookup 61 (.map (some ml)) (.agg #[.string k.1.tn, .string k.1.ar]) true).run Try.prog w' = .ok (.tuple #[.agg #[], .bool ok2]) w' ∧ w'.cell? ⟨xb, 0, none⟩ = some (.string k.1.tn) ∧ w'.cell? ⟨xb, 1, none⟩ = some (.string k.1.ar) ∧ w'.cell? ⟨xb, 2, none⟩ = some (.string k.2.s) ∧ w'.cell? ⟨p, 1, none⟩ = some (.map (some mr)) ∧ w'.cell? ⟨p, 2, none⟩ = some (.map (some ml))) := hid (fun w' hk => by
    have h1 := (h.same hka).same hk
    have h2 := HBA.out.kept hk (fun f => f)
    exact ⟨by rw [hok]; exact h1.lookR k, by rw [hok2]; exact h1.lookL k.1, h2.cell 0, h2.cell 1, h2.cell 2, h1.blk.cell 1, h1.blk.cell 2⟩)
  have HK : Hid (Same w wA) := hka
  clear h hka hok hok2
  rw [HR.out]
  obtain ⟨l1, -, c0, c1, c2, p1, p2⟩ := HL.out wA (Kept.refl _ _)
  have l1d := (HL.out wA.drew (Kept.refl _ _).drew).1
  obtain ⟨wB, hwB⟩ : ∃ W, W = wA.alloc (.cells #[] 78) := ⟨_, rfl⟩
  have hkb : Same wA wB := by rw [hwB]; exact (Kept.refl _ _).alloc _
  obtain ⟨-, -, c0b, c1b, c2b, p1b, p2b⟩ := HL.out wB hkb
  have l1b := (HL.out wB.drew hkb.drew).1
  have HKB : Hid (Same wA wB.drew) := hid hkb.drew
  rw [hwB] at c0b c1b c2b p1b p2b l1b HKB
  clear hkb
  cases ok with
  | true =>
    go_enter Try.func32, Try.ntmps32
    go_wp2_with fail
    rw [← hwA, ← hxb]
    clear hwA hxb
    go_region
    all_goals go_wp2_with fail
    all_goals go_ret
    all_goals exact ⟨rfl, HK.out.trans HKB.out⟩
  | false =>
    obtain ⟨wC, hwC⟩ : ∃ W, W = wB.alloc (.cells #[] 78) := ⟨_, rfl⟩
    have hkc : Same wA wC := by rw [hwC, hwB]; exact ((Kept.refl _ _).alloc _).alloc _
    obtain ⟨-, -, c0c, c1c, c2c, p1c, p2c⟩ := HL.out wC hkc
    have l2b := (HL.out wB.drew.drew (by rw [hwB]; exact (((Kept.refl _ _).alloc _).drew).drew)).2.1
    have l2c := (HL.out wC.drew.drew hkc.drew.drew).2.1
    have HKC : Hid (Same wA wC.drew.drew) := hid hkc.drew.drew
    rw [hwC, hwB] at c0c c1c c2c p1c p2c l2c HKC
    rw [hwB] at l2b
    clear hkc
    simp only [Bool.false_or]
    go_enter Try.func32, Try.ntmps32
    go_wp2_with fail
    rw [← hwA, ← hxb]
    clear hwA hxb
    go_region
    all_goals go_wp2_with fail
    all_goals go_region
    all_goals go_wp2_with fail
    all_goals go_ret
    all_goals exact ⟨rfl, HK.out.trans HKC.out⟩

end

end Go.Proofs.Ytlfibbghkdbomaa
