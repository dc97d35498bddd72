import Derived.Test.YtljlmfnbeofmmaaGreatDoorZqD
import Derived.Defers
import Derived.Recover
namespace Go.Proofs.YtljlmfnbeofmmaaGreatDoor
open Go.RowKit

theorem lcatch_panicking (p : Nat) (x : Int) (n : Nat) (w : World) (hc : w.cell? ⟨p, 0, none⟩ = some (.int .i64 x)) (hz : w.frozen? ⟨p, 0, none⟩ = false) :
  CallsD Tryz.prog 49 #[.pointer (some ⟨p, 0, none⟩)] (.panicking [{ v := .iface 27 (.int .i64 (n : Nat)), recovered := false }]) w fun e u' w' =>
   e = .returned (.tuple #[]) ∧ u' = .panicking [{ v := .iface 27 (.int .i64 (n : Nat)), recovered := true }] ∧ w' = w.setCell ⟨p, 0, none⟩ (.int .i64 (n : Nat)) := by
 refine callsD_of_wpS Tryz.func49 rfl fun c₀ cs hu => ?_
 have HG := gaveSome_any w n
 apply wpS_region
 simp [wpOpsS, go_sem, recoverD, hu, Tryz.ntmps49]
 refine HG.mono ?_
 rintro e w' ⟨rfl, rfl⟩
 simp [go_sem, hc, hz, bodyPostS, results, Tryz.results49]

theorem lcatch_idle (p : Nat) (x : Int) (w : World) (hc : w.cell? ⟨p, 0, none⟩ = some (.int .i64 x)) (hz : w.frozen? ⟨p, 0, none⟩ = false) :
  CallsD Tryz.prog 49 #[.pointer (some ⟨p, 0, none⟩)] .returning w fun e u' w' => e = .returned (.tuple #[]) ∧ u' = .returning ∧ w' = w.setCell ⟨p, 0, none⟩ (.int .i64 0) := by
 refine callsD_of_wpS Tryz.func49 rfl fun c₀ cs hu => ?_
 have HG := gaveNone_any w
 apply wpS_region
 simp [wpOpsS, go_sem, recoverD, hu, Tryz.ntmps49]
 refine HG.mono ?_
 rintro e w' ⟨rfl, rfl⟩
 cases c₀
 simp_all [go_sem, bodyPostS, results, Tryz.results49]

theorem rcatch_panicking (p : Nat) (x : Int) (n : Nat) (w : World) (hc : w.cell? ⟨p, 0, none⟩ = some (.int .i64 x)) (hz : w.frozen? ⟨p, 0, none⟩ = false) :
  CallsD Tryz.prog 53 #[.pointer (some ⟨p, 0, none⟩)] (.panicking [{ v := .iface 27 (.int .i64 (n : Nat)), recovered := false }]) w fun e u' w' =>
   e = .returned (.tuple #[]) ∧ u' = .panicking [{ v := .iface 27 (.int .i64 (n : Nat)), recovered := true }] ∧ w' = w.setCell ⟨p, 0, none⟩ (.int .i64 (n : Nat)) := by
 refine callsD_of_wpS Tryz.func53 rfl fun c₀ cs hu => ?_
 have HG := gaveSome_any w n
 apply wpS_region
 simp [wpOpsS, go_sem, recoverD, hu, Tryz.ntmps53]
 refine HG.mono ?_
 rintro e w' ⟨rfl, rfl⟩
 simp [go_sem, hc, hz, bodyPostS, results, Tryz.results53]

theorem rcatch_idle (p : Nat) (x : Int) (w : World) (hc : w.cell? ⟨p, 0, none⟩ = some (.int .i64 x)) (hz : w.frozen? ⟨p, 0, none⟩ = false) :
  CallsD Tryz.prog 53 #[.pointer (some ⟨p, 0, none⟩)] .returning w fun e u' w' => e = .returned (.tuple #[]) ∧ u' = .returning ∧ w' = w.setCell ⟨p, 0, none⟩ (.int .i64 0) := by
 refine callsD_of_wpS Tryz.func53 rfl fun c₀ cs hu => ?_
 have HG := gaveNone_any w
 apply wpS_region
 simp [wpOpsS, go_sem, recoverD, hu, Tryz.ntmps53]
 refine HG.mono ?_
 rintro e w' ⟨rfl, rfl⟩
 cases c₀
 simp_all [go_sem, bodyPostS, results, Tryz.results53]

end Go.Proofs.YtljlmfnbeofmmaaGreatDoor
