/-
  Layer 16: a book in memory; Revoke, Issue.
-/
import Derived.Test.YtfhfnkhiomahfaaGreatDoorTkE
import Derived.Test.YtfhfnkhiomahfaaGreatDoorNbK
import Derived.Test.YtfhfnkhiomahfaaGreatDoorVaA
namespace Go.Proofs.YtfhfnkhiomahfaaGreatDoor
open Go.RowKit Go.Maps Go.Shelf

def hoR (v : Value) : Option (DataW Unit × List MemPlace) := match v with | .agg ⟨[.string s]⟩ => some (.lit (.string s.data.toList), []) | _ => none
def hoV (k : ByteArray) : Value := .agg #[.string k]
def hoD (k : ByteArray) : DataW Unit := .lit (.string k.data.toList)
theorem hoR_inv (v : Value) (k : ByteArray) (ps : List MemPlace) (h : hoR v = some (hoD k, ps)) : v = hoV k := by
  unfold hoR at h
  split at h
  · rename_i s
    simp only [hoD, Option.some.injEq, Prod.mk.injEq, DataW.lit.injEq, Lit.string.injEq] at h
    rw [data_inj h.1]
    rfl
  · cases h
theorem rdHo : RdG hoR hoV hoD (hoV ⟨#[]⟩) (hoD ⟨#[]⟩) := ⟨fun _ => rfl, hoR_inv, rfl, fun v ps h => hoR_inv v _ ps h⟩

def noR (v : Value) : Option (DataW Unit × List MemPlace) := match v with | .agg ⟨[]⟩ => some (.lit (.bool true), []) | _ => none
def noV (_ : Unit) : Value := .agg #[]
def noD (_ : Unit) : DataW Unit := .lit (.bool true)
theorem noR_inv (v : Value) (ps : List MemPlace) (h : noR v = some (.lit (.bool true), ps)) : v = .agg #[] := by
  unfold noR at h
  split at h
  · rfl
  · cases h
theorem rdNo : RdG noR noV noD (noV ()) (noD ()) := ⟨fun _ => rfl, fun v _ ps h => noR_inv v ps h, rfl, fun v ps h => noR_inv v ps h⟩

theorem zeroHo (w : World) : (zeroValue 74).run Tryz.prog w = .ok (hoV ⟨#[]⟩) w := by kernel_rfl
theorem zeroNo (w : World) : (zeroValue 83).run Tryz.prog w = .ok (noV ()) w := by kernel_rfl

abbrev MpH (w : World) (b : Nat) (T : List (Nm × ByteArray)) : Prop := MpG 9 hoR kN hoD w b T
abbrev MpN (w : World) (b : Nat) (R : List (Nb × Unit)) : Prop := MpG 3 noR kI noD w b R

/-- A book in memory: its tenants' secrets, how many tokens were issued, which are revoked. -/
structure Bk (w : World) (p mt mr : Nat) (T : List (Nm × ByteArray)) (n : Nat) (R : List (Nb × Unit)) : Prop where
  blk : Blk w p #[.map (some mt), .int .i64 (n : Nat), .map (some mr)] 72
  ten : MpH w mt T
  rev : MpN w mr R
  ap1 : p ≠ mt
  ap2 : p ≠ mr
  ap3 : mt ≠ mr

theorem Bk.kept {F : Nat → Prop} {w w' : World} {p mt mr n : Nat} {T : List (Nm × ByteArray)} {R : List (Nb × Unit)} (h : Bk w p mt mr T n R) (hk : Kept F w w') (h1 : ¬ F p) (h2 : ¬ F mt) (h3 : ¬ F mr) : Bk w' p mt mr T n R :=
  ⟨h.blk.kept hk h1, h.ten.kept hk h2, h.rev.kept hk h3, h.ap1, h.ap2, h.ap3⟩

theorem Bk.same {w w' : World} {p mt mr n : Nat} {T : List (Nm × ByteArray)} {R : List (Nb × Unit)} (h : Bk w p mt mr T n R) (hk : Same w w') : Bk w' p mt mr T n R := h.kept hk (fun f => f) (fun f => f) (fun f => f)

theorem MpH.look1 {w : World} {b : Nat} {T : List (Nm × ByteArray)} (h : MpH w b T) (s : Nm) : (Instr.lookup 69 (.map (some b)) (.string s.s) true).run Tryz.prog w = .ok (.tuple #[(getG s T).elim (hoV ⟨#[]⟩) hoV, .bool (getG s T).isSome]) w :=
  MpG.look h klN rdHo nameKey 69 74 Tryz.underlying69 (zeroHo w) s (.string s.s) (keyN s)

theorem MpN.look1 {w : World} {b : Nat} {R : List (Nb × Unit)} (h : MpN w b R) (s : Nb) : (Instr.lookup 70 (.map (some b)) (.int .i64 s.v) true).run Tryz.prog w = .ok (.tuple #[.agg #[], .bool (getG s R).isSome]) w := by
  have h1 := MpG.look h klI rdNo intKey14 70 83 Tryz.underlying70 (zeroNo w) s (.int .i64 s.v) (keyI s)
  rw [h1]
  cases getG s R <;> rfl

theorem MpN.put1 {w : World} {b : Nat} {R : List (Nb × Unit)} (h : MpN w b R) (s : Nb) (hL : R.length ≤ 1000000000) :
    ∃ w', (Instr.mapUpdate 70 (.map (some b)) (.int .i64 s.v) (.agg #[])).run Tryz.prog w = .ok () w' ∧ MpN w' b (putG kI s () R) ∧ Kept (· = b) w w' :=
  MpG.put h klI rdNo intKey14 70 83 Tryz.underlying70 s (.int .i64 s.v) (keyI s) hL ()

theorem MpH.put1 {w : World} {b : Nat} {T : List (Nm × ByteArray)} (h : MpH w b T) (s : Nm) (k : ByteArray) (hL : T.length ≤ 1000000000) :
    ∃ w', (Instr.mapUpdate 69 (.map (some b)) (.string s.s) (.agg #[.string k])).run Tryz.prog w = .ok () w' ∧ MpH w' b (putG kN s k T) ∧ Kept (· = b) w w' :=
  MpG.put h klN rdHo nameKey 69 74 Tryz.underlying69 s (.string s.s) (keyN s) hL k

section
variable {w : World} {p mt mr n : Nat} {T : List (Nm × ByteArray)} {R : List (Nb × Unit)}

set_option maxRecDepth 100000 in
set_option maxHeartbeats 400000 in
theorem revoke_bad (z : Int) (hz : decide (1 ≤ z ∧ z ≤ 1000000000) = false) (w : World) (p : Nat) : Calls Tryz.prog 19 #[.pointer (some ⟨p, 0, none⟩), .int .i64 z] w fun e w' => e = .returned (.int .i64 1) ∧ Same w w' := by
  have HS := isSerial_any w z false hz
  clear hz
  go_enter Tryz.func19, Tryz.ntmps19
  go_wp2_with fail
  refine HS.mono ?_
  rintro e w2 ⟨rfl, hk2⟩
  have HK2 := hid hk2
  clear hk2 HS
  go_wp2_with fail
  go_ret
  exact ⟨rfl, HK2.out⟩

theorem revoke_nil (z : Int) (w : World) : Calls Tryz.prog 19 #[.pointer none, .int .i64 z] w fun e w' => e = .returned (.int .i64 3) ∧ Same w w' := by
  go_enter Tryz.func19, Tryz.ntmps19
  go_wp2_with fail
  go_ret
  exact ⟨rfl, Kept.refl _ _⟩

set_option maxRecDepth 100000 in
set_option maxHeartbeats 400000 in
theorem revoke_ok (h : Bk w p mt mr T n R) (z : Nb) (hz : decide (1 ≤ z.v ∧ z.v ≤ 1000000000) = true) (hL : R.length ≤ 1000000000) : Calls Tryz.prog 19 #[.pointer (some ⟨p, 0, none⟩), .int .i64 z.v] w fun e w' => e = .returned (.int .i64 0) ∧ Bk w' p mt mr T n (putG kI z () R) ∧ Kept (· = mr) w w' := by
  have HS := isSerial_any w z.v true hz
  have H := hid h
  have HL := hid hL
  clear hz h hL
  go_enter Tryz.func19, Tryz.ntmps19
  go_wp2_with fail
  refine HS.mono ?_
  rintro e w2 ⟨rfl, hk2⟩
  have H2 := hid (H.out.same hk2)
  have HK2 := hid hk2
  obtain ⟨_, _, x2, _, _, _⟩ := H2.out.blk.c3
  obtain ⟨w3, hp3, hm3, hk3⟩ := MpN.put1 H2.out.rev z HL.out
  have H3 : Hid (Bk w3 p mt mr T n (putG kI z () R)) := hid ⟨H2.out.blk.kept hk3 H2.out.ap2, H2.out.ten.kept hk3 H2.out.ap3, hm3, H2.out.ap1, H2.out.ap2, H2.out.ap3⟩
  have HK3 : Hid (Kept (· = mr) w w3) := hid (Kept.trans (show Kept (· = mr) w w2 from HK2.out.mono (fun _ _ f => f.elim)) hk3 (fun _ _ e => e) (fun _ _ e => e))
  clear hk2 hm3 hk3 HS
  go_wp2_with fail
  try rw [hp3]
  go_wp2_with fail
  go_ret
  exact ⟨rfl, H3.out, HK3.out⟩

end

end Go.Proofs.YtfhfnkhiomahfaaGreatDoor
