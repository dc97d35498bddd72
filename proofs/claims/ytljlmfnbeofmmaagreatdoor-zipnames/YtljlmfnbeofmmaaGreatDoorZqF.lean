import Derived.Test.YtljlmfnbeofmmaaGreatDoorZqE
import Derived.Test.YtljlmfnbeofmmaaGreatDoorRec
namespace Go.Proofs.YtljlmfnbeofmmaaGreatDoor
open Go.RowKit

structure Itv where
 m : Mk
 a : Option Addr
 n : Nat
 c : Nat

instance : Inhabited Itv := ⟨⟨⟨0, 0, 0, 0, []⟩, none, 0, 0⟩⟩

def Itv.v (x : Itv) : Value := .slice x.a x.n x.c

def itE (x : Itv) : List Value := [.int .u16 (x.m.way : Nat), .int .u32 (x.m.sum : Nat), .int .u32 (x.m.packed : Nat), .int .u32 (x.m.size : Nat), .string (txt x.m.name), .slice x.a x.n x.c]

theorem itE_ok : EncOk itE 6 := ⟨fun _ => rfl, fun x u hu => by simp [itE] at hu; rcases hu with rfl | rfl | rfl | rfl | rfl | rfl <;> rfl, by decide⟩

theorem Tryz.infoItem : (Tryz.prog.info? 78).map (fun i => (i.zero, i.size, i.bytes)) = some (some (.agg #[.int .u16 0, .int .u32 0, .int .u32 0, .int .u32 0, .string ⟨#[]⟩, .slice none 0 0]), 6, 56) := by kernel_rfl

theorem Tryz.infoEntry : (Tryz.prog.info? 34).map (fun i => (i.zero, i.size, i.bytes)) = some (some (.agg #[.string ⟨#[]⟩, .string ⟨#[]⟩]), 2, 32) := by kernel_rfl

def enE (y : En) : List Value := [.string y.n, .string y.d]

theorem enE_ok : EncOk enE 2 := ⟨fun _ => rfl, fun x u hu => by simp [enE] at hu; rcases hu with rfl | rfl <;> rfl, by decide⟩

theorem RowC.at8 {α : Type} {B : Nat} {t k : Nat} {enc : α → List Value} (ok : EncOk enc k) {w : World} {v : Value} {xs : List α} (h : RowC B t k enc w v xs) (j : Nat) (hj : j < xs.length) : ∃ g cap, v = .slice (some ⟨g, 0, none⟩) xs.length cap ∧ B ≤ g ∧ ∀ i, i < k → w.cell? ⟨g, j * k + i, none⟩ = (enc xs[j])[i]? := by
 rcases h.2 with ⟨_, h0⟩ | ⟨g, cap, cur, hv, hb, _⟩
 ·omega
 ·refine ⟨g, cap, hv, hb, fun i hi => ?_⟩
  have hg := flat_get ok xs j i hj hi
  have hi2 : i < (enc xs[j]).length := by rw [ok.len]; exact hi
  rw [List.getElem?_eq_getElem hi2] at hg ⊢
  have := World.ownsRow.cells h (g := g) (by rw [hv]; rfl) (j * k + i) _ hg
  rw [addAt, Nat.zero_add] at this
  exact this

theorem Itms.ofRow {B : Nat} {w : World} {a : Option Addr} {n c : Nat} {xs : List Itv} (h : RowC B 78 6 itE w (.slice a n c) xs) (hn : n = xs.length) : Itms w a n (fun j => (xs.getD j default).m) (fun j => (xs.getD j default).v) := by
 subst hn
 intro j hj
 obtain ⟨g, cap, hv, _, hc⟩ := h.at8 itE_ok j hj
 simp only [Value.slice.injEq] at hv
 have e : xs.getD j default = xs[j] := by rw [List.getD_eq_getElem?_getD, List.getElem?_eq_getElem hj]; rfl
 simp only [e]
 refine ⟨g, 0, hv.1, ?_, ?_, ?_, ?_, ?_, ?_⟩
 ·have := hc 0 (by decide); simpa [itE] using this
 ·have := hc 1 (by decide); simpa [itE] using this
 ·have := hc 2 (by decide); simpa [itE] using this
 ·have := hc 3 (by decide); simpa [itE] using this
 ·have := hc 4 (by decide); simpa [itE] using this
 ·have := hc 5 (by decide); simpa [itE, Itv.v] using this

end Go.Proofs.YtljlmfnbeofmmaaGreatDoor
