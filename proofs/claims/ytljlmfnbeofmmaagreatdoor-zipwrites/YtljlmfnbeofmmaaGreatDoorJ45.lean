/-
  Of the proof: parts ZqE, ZqF, ZqG, ZqH, ZqJ, ZqK, ZrA, ZrM, ZqL, ZrB, ZrL.
-/
import Derived.Defers
import Derived.Recover
import Derived.BigQuiet
import Derived.Test.YtljlmfnbeofmmaaGreatDoorJ44
import Derived.Test.YtljlmfnbeofmmaaGreatDoorJ3
import Derived.Test.YtljlmfnbeofmmaaGreatDoorJ41
import Derived.Test.YtljlmfnbeofmmaaGreatDoorJ13
import Derived.Test.YtljlmfnbeofmmaaGreatDoorJ42

namespace Go.Proofs.YtljlmfnbeofmmaaGreatDoor
open Go.RowKit

theorem lcatch_panicking (p : Nat) (x : Int) (n : Nat) (w : World) (hc : w.cell? ⟨p, 0, none⟩ = some (.int .i64 x)) (hz : w.frozen? ⟨p, 0, none⟩ = false) :
  CallsD Tryz.prog 49 #[.pointer (some ⟨p, 0, none⟩)] (.panicking [{ v := .iface 27 (.int .i64 (n : Nat)), recovered := false }]) w fun e u' w' =>
   e = .returned (.tuple #[]) ∧ u' = .panicking [{ v := .iface 27 (.int .i64 (n : Nat)), recovered := true }] ∧ w' = w.setCell ⟨p, 0, none⟩ (.int .i64 (n : Nat)) := by
 refine callsD_of_wpS Tryz.func49 rfl fun c₀ cs hu => ?_
 have HG := gaveSome_any w n
 apply wpS_region
 simp [wpOpsS, go_sem, recoverD, hu, Tryz.ntmps49]
 refine HG.mono ?_
 rintro e w' ⟨rfl, rfl⟩
 simp [go_sem, hc, hz, bodyPostS, results, Tryz.results49]

theorem lcatch_idle (p : Nat) (x : Int) (w : World) (hc : w.cell? ⟨p, 0, none⟩ = some (.int .i64 x)) (hz : w.frozen? ⟨p, 0, none⟩ = false) :
  CallsD Tryz.prog 49 #[.pointer (some ⟨p, 0, none⟩)] .returning w fun e u' w' => e = .returned (.tuple #[]) ∧ u' = .returning ∧ w' = w.setCell ⟨p, 0, none⟩ (.int .i64 0) := by
 refine callsD_of_wpS Tryz.func49 rfl fun c₀ cs hu => ?_
 have HG := gaveNone_any w
 apply wpS_region
 simp [wpOpsS, go_sem, recoverD, hu, Tryz.ntmps49]
 refine HG.mono ?_
 rintro e w' ⟨rfl, rfl⟩
 cases c₀
 simp_all [go_sem, bodyPostS, results, Tryz.results49]

theorem rcatch_panicking (p : Nat) (x : Int) (n : Nat) (w : World) (hc : w.cell? ⟨p, 0, none⟩ = some (.int .i64 x)) (hz : w.frozen? ⟨p, 0, none⟩ = false) :
  CallsD Tryz.prog 53 #[.pointer (some ⟨p, 0, none⟩)] (.panicking [{ v := .iface 27 (.int .i64 (n : Nat)), recovered := false }]) w fun e u' w' =>
   e = .returned (.tuple #[]) ∧ u' = .panicking [{ v := .iface 27 (.int .i64 (n : Nat)), recovered := true }] ∧ w' = w.setCell ⟨p, 0, none⟩ (.int .i64 (n : Nat)) := by
 refine callsD_of_wpS Tryz.func53 rfl fun c₀ cs hu => ?_
 have HG := gaveSome_any w n
 apply wpS_region
 simp [wpOpsS, go_sem, recoverD, hu, Tryz.ntmps53]
 refine HG.mono ?_
 rintro e w' ⟨rfl, rfl⟩
 simp [go_sem, hc, hz, bodyPostS, results, Tryz.results53]

theorem rcatch_idle (p : Nat) (x : Int) (w : World) (hc : w.cell? ⟨p, 0, none⟩ = some (.int .i64 x)) (hz : w.frozen? ⟨p, 0, none⟩ = false) :
  CallsD Tryz.prog 53 #[.pointer (some ⟨p, 0, none⟩)] .returning w fun e u' w' => e = .returned (.tuple #[]) ∧ u' = .returning ∧ w' = w.setCell ⟨p, 0, none⟩ (.int .i64 0) := by
 refine callsD_of_wpS Tryz.func53 rfl fun c₀ cs hu => ?_
 have HG := gaveNone_any w
 apply wpS_region
 simp [wpOpsS, go_sem, recoverD, hu, Tryz.ntmps53]
 refine HG.mono ?_
 rintro e w' ⟨rfl, rfl⟩
 cases c₀
 simp_all [go_sem, bodyPostS, results, Tryz.results53]

end Go.Proofs.YtljlmfnbeofmmaaGreatDoor

namespace Go.Proofs.YtljlmfnbeofmmaaGreatDoor
open Go.RowKit

structure Itv where
 m : Mk
 a : Option Addr
 n : Nat
 c : Nat

instance : Inhabited Itv := ⟨⟨⟨0, 0, 0, 0, []⟩, none, 0, 0⟩⟩

def Itv.v (x : Itv) : Value := .slice x.a x.n x.c

def itE (x : Itv) : List Value := [.int .u16 (x.m.way : Nat), .int .u32 (x.m.sum : Nat), .int .u32 (x.m.packed : Nat), .int .u32 (x.m.size : Nat), .string (txt x.m.name), .slice x.a x.n x.c]

theorem itE_ok : EncOk itE 6 := ⟨fun _ => rfl, fun x u hu => by simp [itE] at hu; rcases hu with rfl | rfl | rfl | rfl | rfl | rfl <;> rfl, by decide⟩

theorem Tryz.infoItem : (Tryz.prog.info? 78).map (fun i => (i.zero, i.size, i.bytes)) = some (some (.agg #[.int .u16 0, .int .u32 0, .int .u32 0, .int .u32 0, .string ⟨#[]⟩, .slice none 0 0]), 6, 56) := by kernel_rfl

theorem Tryz.infoEntry : (Tryz.prog.info? 34).map (fun i => (i.zero, i.size, i.bytes)) = some (some (.agg #[.string ⟨#[]⟩, .string ⟨#[]⟩]), 2, 32) := by kernel_rfl

def enE (y : En) : List Value := [.string y.n, .string y.d]

theorem enE_ok : EncOk enE 2 := ⟨fun _ => rfl, fun x u hu => by simp [enE] at hu; rcases hu with rfl | rfl <;> rfl, by decide⟩

theorem RowC.at8 {α : Type} {B : Nat} {t k : Nat} {enc : α → List Value} (ok : EncOk enc k) {w : World} {v : Value} {xs : List α} (h : RowC B t k enc w v xs) (j : Nat) (hj : j < xs.length) : ∃ g cap, v = .slice (some ⟨g, 0, none⟩) xs.length cap ∧ B ≤ g ∧ ∀ i, i < k → w.cell? ⟨g, j * k + i, none⟩ = (enc xs[j])[i]? := by
 rcases h.2 with ⟨_, h0⟩ | ⟨g, cap, cur, hv, hb, _⟩
 ·omega
 ·refine ⟨g, cap, hv, hb, fun i hi => ?_⟩
  have hg := flat_get ok xs j i hj hi
  have hi2 : i < (enc xs[j]).length := by rw [ok.len]; exact hi
  rw [List.getElem?_eq_getElem hi2] at hg ⊢
  have := World.ownsRow.cells h (g := g) (by rw [hv]; rfl) (j * k + i) _ hg
  rw [addAt, Nat.zero_add] at this
  exact this

theorem Itms.ofRow {B : Nat} {w : World} {a : Option Addr} {n c : Nat} {xs : List Itv} (h : RowC B 78 6 itE w (.slice a n c) xs) (hn : n = xs.length) : Itms w a n (fun j => (xs.getD j default).m) (fun j => (xs.getD j default).v) := by
 subst hn
 intro j hj
 obtain ⟨g, cap, hv, _, hc⟩ := h.at8 itE_ok j hj
 simp only [Value.slice.injEq] at hv
 have e : xs.getD j default = xs[j] := by rw [List.getD_eq_getElem?_getD, List.getElem?_eq_getElem hj]; rfl
 simp only [e]
 refine ⟨g, 0, hv.1, ?_, ?_, ?_, ?_, ?_, ?_⟩
 ·have := hc 0 (by decide); simpa [itE] using this
 ·have := hc 1 (by decide); simpa [itE] using this
 ·have := hc 2 (by decide); simpa [itE] using this
 ·have := hc 3 (by decide); simpa [itE] using this
 ·have := hc 4 (by decide); simpa [itE] using this
 ·have := hc 5 (by decide); simpa [itE, Itv.v] using this

end Go.Proofs.YtljlmfnbeofmmaaGreatDoor

namespace Go.Proofs.YtljlmfnbeofmmaaGreatDoor
open Go.RowKit

structure ItAt (N : Nat) (w : World) (x : Itv) (y : It) : Prop where
 lab : x.m = y.lab
 src : Src w (fun k => k < N) (.slice x.a x.n x.c) y.bytes
 len : x.n = y.bytes.length
 byte : ∀ b ∈ y.bytes, b < 256
 nam : ∀ b ∈ y.lab.name, b < 256
 ok : MkOk y.lab
 pk : y.bytes.length = y.lab.packed
 ck : ∃ a, chk8 y.lab a = 0
 adr : x.a ≠ none

def Its (N : Nat) (w : World) (xs : List Itv) (L : List It) : Prop := xs.length = L.length ∧ ∀ (j : Nat) (x : Itv) (y : It), xs[j]? = some x → L[j]? = some y → ItAt N w x y

theorem Its.nil (N : Nat) (w : World) : Its N w [] [] := ⟨rfl, fun j x y h => (by simp at h)⟩

theorem ItAt.kept {F : Nat → Prop} {N : Nat} {w w' : World} {x : Itv} {y : It} (h : ItAt N w x y) (hk : Kept F w w') (hF : ∀ k, k < N → ¬ F k) : ItAt N w' x y :=
 ⟨h.lab, h.src.kept hk (fun k hk _ => hF k hk), h.len, h.byte, h.nam, h.ok, h.pk, h.ck, h.adr⟩

theorem Its.kept {F : Nat → Prop} {N : Nat} {w w' : World} {xs : List Itv} {L : List It} (h : Its N w xs L) (hk : Kept F w w') (hF : ∀ k, k < N → ¬ F k) : Its N w' xs L :=
 ⟨h.1, fun j x y h1 h2 => (h.2 j x y h1 h2).kept hk hF⟩

theorem Its.snoc {N : Nat} {w : World} {xs : List Itv} {L : List It} (h : Its N w xs L) {x : Itv} {y : It} (hx : ItAt N w x y) : Its N w (xs ++ [x]) (L ++ [y]) := by
 refine ⟨by simp [h.1], fun j x' y' h1 h2 => ?_⟩
 by_cases hj : j < xs.length
 ·rw [List.getElem?_append_left hj] at h1
  rw [List.getElem?_append_left (by rw [← h.1]; exact hj)] at h2
  exact h.2 j x' y' h1 h2
 ·rw [List.getElem?_append_right (by omega)] at h1
  rw [List.getElem?_append_right (by rw [← h.1]; omega), ← h.1] at h2
  have e : j - xs.length = 0 := by
   rcases Nat.eq_zero_or_pos (j - xs.length) with e | e
   ·exact e
   ·rw [List.getElem?_eq_none (by simp; omega)] at h1; cases h1
  rw [e] at h1 h2
  simp only [List.getElem?_cons_zero, Option.some.injEq] at h1 h2
  subst h1
  subst h2
  exact hx

theorem Its.names {N : Nat} {w : World} {xs : List Itv} {L : List It} (h : Its N w xs L) : nmsOf (fun j => (xs.getD j default).m) xs.length = names8 L := by
 unfold nmsOf names8
 refine List.ext_getElem (by simp [h.1]) (fun j h1 h2 => ?_)
 simp only [List.length_map, List.length_range] at h1 h2
 simp only [List.getElem_map, List.getElem_range]
 have e : xs.getD j default = xs[j] := by rw [List.getD_eq_getElem?_getD, List.getElem?_eq_getElem h1]; rfl
 rw [e, (h.2 j _ _ (List.getElem?_eq_getElem h1) (List.getElem?_eq_getElem h2)).lab]

theorem Its.nam {N : Nat} {w : World} {xs : List Itv} {L : List It} (h : Its N w xs L) : ∀ i, i < xs.length → ∀ b ∈ (xs.getD i default).m.name, b < 256 := by
 intro j hj
 have h2 : j < L.length := by rw [← h.1]; exact hj
 have e : xs.getD j default = xs[j] := by rw [List.getD_eq_getElem?_getD, List.getElem?_eq_getElem hj]; rfl
 have hi := h.2 j _ _ (List.getElem?_eq_getElem hj) (List.getElem?_eq_getElem h2)
 rw [e, hi.lab]
 exact hi.nam

def OpnA (w w' : World) (o : Except Nat (List It)) (e : Ending) : Prop :=
 (∀ k, o = .error k → e = pan8 k) ∧ (∀ L, o = .ok L → ∃ a n c xs, e = .returned (.slice a n c) ∧ RowC w.heap.size 78 6 itE w' (.slice a n c) xs ∧ Its w.heap.size w' xs L ∧ n = xs.length ∧ n ≤ c ∧ n ≤ 64) ∧ Same w w'

theorem OpnA.bad {w w' : World} {o : Except Nat (List It)} {e : Ending} {k : Nat} (h : o = .error k) (he : e = pan8 k) (hk : Same w w') : OpnA w w' o e :=
 ⟨fun k' h' => by rw [h] at h'; simp only [Except.error.injEq] at h'; subst h'; exact he, fun L h' => (by rw [h] at h'; cases h'), hk⟩

theorem OpnA.good {w w' : World} {o : Except Nat (List It)} {e : Ending} {L : List It} (h : o = .ok L) {a : Option Addr} {n c : Nat} {xs : List Itv} (he : e = .returned (.slice a n c)) (hr : RowC w.heap.size 78 6 itE w' (.slice a n c) xs) (hi : Its w.heap.size w' xs L) (hn : n = xs.length) (hc : n ≤ c) (h64 : n ≤ 64) (hk : Same w w') : OpnA w w' o e :=
 ⟨fun k' h' => (by rw [h] at h'; cases h'), fun L' h' => by rw [h] at h'; simp only [Except.ok.injEq] at h'; subst h'; exact ⟨a, n, c, xs, he, hr, hi, hn, hc, h64⟩, hk⟩

theorem pie8_len {m : Mk} {r b y : List Nat} (h : pie8 m r = some (b, y)) : y.length ≤ r.length ∧ b.length = m.packed := by
 unfold pie8 at h
 rw [hed8_is] at h
 split at h
 ·rw [bnd8_s] at h
  obtain ⟨h1, h2, h3⟩ := tk8_some h
  rw [h2, h3, List.length_drop, List.length_take, List.length_drop]
  rw [List.length_drop] at h1
  omega
 ·rw [bnd8_n] at h; cases h

theorem opn8_rec {fs n : Nat} {P R : List Nat} {l : List It} (h : rec8 R = none) : opn8 fs (n + 1) P R l = .error 81 := by rw [opn8, h]
theorem opn8_chk {fs n : Nat} {P R R' : List Nat} {l : List It} {m : Mk} {at' : Nat} (h : rec8 R = some ((m, at'), R')) (hc : chk8 m (names8 l) ≠ 0) : opn8 fs (n + 1) P R l = .error (chk8 m (names8 l)) := by rw [opn8, h]; simp only; rw [if_pos hc]
theorem opn8_at {fs n : Nat} {P R R' : List Nat} {l : List It} {m : Mk} {at' : Nat} (h : rec8 R = some ((m, at'), R')) (hc : chk8 m (names8 l) = 0) (ha : at' ≠ fs - P.length) : opn8 fs (n + 1) P R l = .error 81 := by rw [opn8, h]; simp only; rw [if_neg (by omega), if_pos ha]
theorem opn8_pie {fs n : Nat} {P R R' : List Nat} {l : List It} {m : Mk} {at' : Nat} (h : rec8 R = some ((m, at'), R')) (hc : chk8 m (names8 l) = 0) (ha : at' = fs - P.length) (hp : pie8 m P = none) : opn8 fs (n + 1) P R l = .error 81 := by rw [opn8, h]; simp only; rw [if_neg (by omega), if_neg (by omega), hp]
theorem opn8_next {fs n : Nat} {P R R' : List Nat} {l : List It} {m : Mk} {at' : Nat} (h : rec8 R = some ((m, at'), R')) (hc : chk8 m (names8 l) = 0) (ha : at' = fs - P.length) {b P' : List Nat} (hp : pie8 m P = some (b, P')) : opn8 fs (n + 1) P R l = opn8 fs n P' R' (l ++ [⟨m, b⟩]) := by rw [opn8, h]; simp only; rw [if_neg (by omega), if_neg (by omega), hp]

theorem RowC.off {α : Type} {B t k : Nat} {enc : α → List Value} {w : World} {v : Value} {xs : List α} (h : RowC B t k enc w v xs) {g : Nat} {cs : Array Value} {t' : Nat} (hb : Blk w g cs t') (ht : t' ≠ t) : v.ownBlock ≠ some g := by
 intro e
 rcases h.2 with ⟨rfl, _⟩ | ⟨g', cap, cur, rfl, _, hg, _⟩
 ·cases e
 ·simp only [Value.ownBlock, Option.some.injEq] at e
  subst e
  unfold Blk at hb
  rw [hb] at hg
  simp only [Option.some.injEq, Obj.cells.injEq] at hg
  exact ht hg.2.1

structure OpI (w wr : World) (fs : Nat) (o : Except Nat (List It)) (left : Nat) (pb rb : Nat) (i : Nat) (v : Value) (xs : List Itv) (L : List It) (P R : List Nat) (ap ar : Option Addr) (cp cr : Nat) : Prop where
 row : RowC w.heap.size 78 6 itE wr v xs
 its : Its w.heap.size wr xs L
 len : L.length = i
 pie : Cur w.heap.size wr pb P ap cp
 recs : Cur w.heap.size wr rb R ar cr
 same : Same w wr
 eq : o = opn8 fs left P R L
 two : pb ≠ rb
 fit : P.length ≤ fs

end Go.Proofs.YtljlmfnbeofmmaaGreatDoor

namespace Go.Proofs.YtljlmfnbeofmmaaGreatDoor
open Go.RowKit

theorem Src.cut8 {w : World} {I : Nat → Prop} {b o n c : Nat} {bs : List Nat} (hs : Src w I (.slice (some ⟨b, o, none⟩) n c) bs) (i j : Nat) (hij : i ≤ j) (hj : j ≤ bs.length) (c' : Nat) : Src w I (.slice (some ⟨b, o + i, none⟩) (j - i) c') ((bs.take j).drop i) := by
 obtain ⟨ao, cap, e, h9⟩ := hs
 simp only [Value.slice.injEq] at e
 obtain ⟨rfl, _, rfl⟩ := e
 refine ⟨_, _, by rw [List.length_drop, List.length_take, Nat.min_eq_left hj], fun hne => ?_⟩
 have hl : i < j := by
  refine Classical.byContradiction (fun hc => hne ?_)
  exact List.drop_eq_nil_of_le (by rw [List.length_take]; omega)
 obtain ⟨b', o', e4, h5, h6⟩ := h9 (fun e => by rw [e] at hj; simp at hj; omega)
 simp only [Option.some.injEq, Addr.mk.injEq, and_true] at e4
 obtain ⟨rfl, rfl⟩ := e4
 refine ⟨b, o + i, rfl, h5, fun k hk => ?_⟩
 rw [List.length_drop, List.length_take] at hk
 have := h6 (i + k) (by omega)
 rw [List.getElem_drop, List.getElem_take, Nat.add_assoc]
 exact this

theorem opI_two {w w3 : World} {fs cnt b o c pn : Nat} {P0 R0 : List Nat} {o8 : Except Nat (List It)} (hk : Same w w3) (h8 : o8 = opn8 fs cnt P0 R0 []) (hsp : Src w (fun k => k < w.heap.size) (.slice (some ⟨b, o, none⟩) fs c) P0) (hsr : Src w (fun k => k < w.heap.size) (.slice (some ⟨b, o + fs, none⟩) (pn - fs) (c - fs)) R0) (hl : P0.length = fs ∧ R0.length = pn - fs) (hby : (∀ x ∈ P0, x < 256) ∧ (∀ x ∈ R0, x < 256)) (h1 : fs ≤ pn) (h2 : pn ≤ c) (h3 : pn ≤ 1048576) {wx : World} {pb rb : Nat} (hkx : Same w3 wx) (hb1 : Blk wx pb #[.slice (some ⟨b, o, none⟩) fs c] 129) (hb2 : Blk wx rb #[.slice (some ⟨b, o + fs, none⟩) (pn - fs) (c - fs)] 129) (hn1 : w3.heap.size ≤ pb) (hn2 : w3.heap.size ≤ rb) (hne : pb ≠ rb) : OpI w wx fs o8 cnt pb rb 0 (.slice none 0 0) [] [] P0 R0 (some ⟨b, o, none⟩) (some ⟨b, o + fs, none⟩) c (c - fs) := by
 have hkk := Same.trans hk hkx
 have hsz := hk.size
 refine ⟨RowC.nil, Its.nil _ _, rfl, ⟨by rw [hl.1]; exact hb1, by rw [hl.1]; exact hsp.kept hkk (fun _ _ _ f => f), by omega, by omega, hby.1, by omega, by simp⟩, ⟨by rw [hl.2]; exact hb2, by rw [hl.2]; exact hsr.kept hkk (fun _ _ _ f => f), by omega, by omega, hby.2, by omega, by simp⟩, hkk, h8, hne, by omega⟩

theorem cellsAt_it (w : World) (x : Itv) : CellsAt (w.alloc (.cells #[.int .u16 (x.m.way : Nat), .int .u32 (x.m.sum : Nat), .int .u32 (x.m.packed : Nat), .int .u32 (x.m.size : Nat), .string (txt x.m.name), .slice x.a x.n x.c] 78)) ⟨w.heap.size, 0, none⟩ ([x].flatMap itE) := by
 intro j u hj
 match j, hj with
 | 0, hj => simp [itE] at hj; subst hj; simp [addAt]
 | 1, hj => simp [itE] at hj; subst hj; simp [addAt]
 | 2, hj => simp [itE] at hj; subst hj; simp [addAt]
 | 3, hj => simp [itE] at hj; subst hj; simp [addAt]
 | 4, hj => simp [itE] at hj; subst hj; simp [addAt]
 | 5, hj => simp [itE] at hj; subst hj; simp [addAt]
 | j + 6, hj => simp [itE] at hj

set_option maxRecDepth 100000 in
set_option maxHeartbeats 400000 in
theorem open_loop (w : World) (b o : Nat) (c : Nat) (bs : List Nat) (n : Nat) (hL : n = bs.length) (hs : Src w (fun k => k < w.heap.size) (.slice (some ⟨b, o, none⟩) n c) bs) (hb : ∀ x ∈ bs, x < 256) (hcap : n ≤ c) (h1 : 22 ≤ n) (h2 : n ≤ 1048576) (cnt fs : Nat) (he : end8 (bs.drop (n - 22)) (n - 22) = .ok (cnt, fs)) (hf : fs ≤ n - 22) (h64 : cnt ≤ 64) (hx : Mxl w) :
  Calls Tryz.prog 51 #[.slice (some ⟨b, o, none⟩) n c] w fun e w' => OpnA w w' (opn8 fs cnt (bs.take fs) ((bs.take (n - 22)).drop fs) []) e := by
 have b1 : decide ((n : Int) ≤ 1048576) = true := by simp; omega
 have b2 : decide (n ≤ 1048576) = true := by simp; omega
 have b3 : decide ((22 : Int) ≤ (n : Int)) = true := by simp; omega
 have b4 : decide (22 ≤ n) = true := by simp; omega
 obtain ⟨p, hp⟩ : ∃ p, p = n - 22 := ⟨_, rfl⟩
 rw [← hp] at he hf ⊢
 have hpI : (n : Int) - 22 = (p : Int) := by omega
 have hpw : IntKind.i64.wrap (p : Int) = (p : Int) := by rw [IntKind.wrap_i64]; omega
 have i1 : (0 : Int) ≤ (p : Int) := by omega
 have i2 : (p : Int) ≤ (n : Int) := by omega
 have i3 : (n : Int) ≤ (c : Int) := by omega
 have HO := need_ok w (.int .i64 2)
 have HP := need_ok w (.int .i64 81)
 have hdl : (bs.drop p).length = 22 := by rw [List.length_drop]; omega
 have HSD : Hid (∀ c', Src w (fun k => k < w.heap.size) (.slice (some ⟨b, o + p, none⟩) (bs.drop p).length c') (bs.drop p)) := hid (fun c' => by
  have h9 := hs.cut8 p n (by omega) (by omega) c'
  rw [List.take_of_length_le (by omega)] at h9
  rw [hdl]
  rw [show n - p = 22 by omega] at h9
  exact h9)
 have HE : Hid (∀ c', 22 ≤ c' → Calls Tryz.prog 91 #[.slice (some ⟨b, o + p, none⟩) 22 c', .int .i64 (p : Nat)] w fun e w' => EndA w w' (end8 (bs.drop p) p) e) := hid (fun c' h9 => by
  have h8 := end_any w.heap.size w (bs.drop p) (some ⟨b, o + p, none⟩) c' p (HSD.out c') (by omega) (Nat.le_refl _) (fun x hx => hb x (List.mem_of_mem_drop hx)) (by omega) (by omega) (by simp)
  rw [hdl] at h8
  exact h8)
 have hnp : n - p = 22 := by omega
 have HER : Hid (end8 (bs.drop p) p = .ok (cnt, fs)) := he
 have HSP : Hid (Src w (fun k => k < w.heap.size) (.slice (some ⟨b, o, none⟩) fs c) (bs.take fs)) := hid (by
  have h9 := hs.cut8 0 fs (by omega) (by omega) c
  simpa using h9)
 have HSR : Hid (Src w (fun k => k < w.heap.size) (.slice (some ⟨b, o + fs, none⟩) (p - fs) (c - fs)) ((bs.take p).drop fs)) := hid (hs.cut8 fs p hf (by omega) _)
 have HBY : Hid (∀ x ∈ bs, x < 256) := hb
 have HLP : Hid ((bs.take fs).length = fs ∧ ((bs.take p).drop fs).length = p - fs) := hid ⟨by rw [List.length_take]; omega, by rw [List.length_drop, List.length_take]; omega⟩
 have HX : Hid (Mxl w) := hx
 have j1 : (0 : Int) ≤ (fs : Int) := by omega
 have j2 : (fs : Int) ≤ (p : Int) := by omega
 have j3 : (fs : Int) ≤ (c : Int) := by omega
 have j4 : (p : Int) ≤ (c : Int) := by omega
 have j5 : ¬ c = fs := by omega
 have hfsb : fs ≤ 1048576 := by omega
 have hpb : p ≤ 1048576 := by omega
 have hfp : fs ≤ p := hf
 have hpc : p ≤ c := by omega
 obtain ⟨P0, hP0⟩ : ∃ P, P = bs.take fs := ⟨_, rfl⟩
 obtain ⟨R0, hR0⟩ : ∃ R, R = (bs.take p).drop fs := ⟨_, rfl⟩
 have HPR : Hid ((∀ x ∈ P0, x < 256) ∧ (∀ x ∈ R0, x < 256)) := hid (by
  rw [hP0, hR0]
  exact ⟨fun x hx => hb x (List.mem_of_mem_take hx), fun x hx => hb x (List.mem_of_mem_take (List.mem_of_mem_drop hx))⟩)
 rw [← hP0] at HSP HLP ⊢
 rw [← hR0] at HSR HLP ⊢
 obtain ⟨o8, ho8⟩ : ∃ x, x = opn8 fs cnt P0 R0 [] := ⟨_, rfl⟩
 have HO8 : Hid (o8 = opn8 fs cnt P0 R0 []) := ho8
 rw [← ho8]
 clear hs hb h1 h2 hdl he hp hL hP0 hR0 HBY ho8 hx hf
 go_enter Tryz.func51, Tryz.ntmps51
 go_wp2_with fail
 refine HO.mono ?_
 rintro e w1 ⟨rfl, hw1⟩
 subst hw1
 clear HO
 go_wp2_with fail
 refine HP.mono ?_
 rintro e w2 ⟨rfl, hw2⟩
 subst hw2
 clear HP
 go_wp2_with fail
 refine (HE.out _ (by omega)).mono ?_
 intro e w3 h3
 obtain ⟨rfl, hk3⟩ := h3.1 cnt fs HER.out
 have HK3 : Hid (Same w2 w3) := hk3
 clear h3 hk3
 go_upto_region 5 with fail
 go_cut [6, 7] from 30 to 40 (fun z6 z7 wx => ∃ pb rb, z6 = .pointer (some ⟨pb, 0, none⟩) ∧ z7 = .pointer (some ⟨rb, 0, none⟩) ∧ Hid (OpI w2 wx fs o8 cnt pb rb 0 (.slice none 0 0) [] [] P0 R0 (some ⟨b, o, none⟩) (some ⟨b, o + fs, none⟩) c (c - fs)))
 case first =>
  go_region
  ·go_wp2_with fail
   go_meet
   refine ⟨_, _, rfl, rfl, hid (opI_two HK3.out HO8.out HSP.out HSR.out HLP.out HPR.out hfp hpc hpb ((((Kept.refl _ w3).alloc _).alloc _).drew) ?_ ?_ (Nat.le_refl _) (Nat.le_succ _) (by omega))⟩
   ·exact (Blk.new w3 _ _).kept (show Same _ _ from ((Kept.refl _ _).alloc _).drew) (fun f => f)
   ·have h9 := Blk.new (w3.alloc (.cells #[.slice (some ⟨b, o, none⟩) fs c] 129)) #[.slice (some ⟨b, o + fs, none⟩) (p - fs) (c - fs)] 129
    rw [World.size_alloc] at h9
    exact h9
  ·go_wp2_with fail
   go_meet
   refine ⟨_, _, rfl, rfl, hid (opI_two HK3.out HO8.out HSP.out HSR.out HLP.out HPR.out hfp hpc hpb ((((Kept.refl _ w3).alloc _).alloc _).drew) ?_ ?_ (Nat.le_succ _) (Nat.le_refl _) (by omega))⟩
   ·have h9 := Blk.new (w3.alloc (.cells #[.slice (some ⟨b, o + fs, none⟩) (p - fs) (c - fs)] 129)) #[.slice (some ⟨b, o, none⟩) fs c] 129
    rw [World.size_alloc] at h9
    exact h9
   ·exact (Blk.new w3 _ _).kept (show Same _ _ from ((Kept.refl _ _).alloc _).drew) (fun f => f)
 case rest =>
  obtain ⟨pb, rb, rfl, rfl, HI0⟩ := hcut
  clear HSD HE HSP HSR HLP HPR HO8 HER HK3 j1 j2 j3 j4 j5 i1 i2 i3 hpI hpw hnp hcap hpc hpb hfp
  go_wp2_with fail
  go_loopg [8, 42] cnt (fun qq z8 z42 wr => ∃ (i : Nat) (xs : List Itv) (L : List It) (P R : List Nat) (ap ar : Option Addr) (cp cr : Nat), z42 = .int .i64 (i : Nat) ∧ i ≤ cnt ∧ cnt - i ≤ qq ∧ Hid (OpI w2 wr fs o8 (cnt - i) pb rb i z8 xs L P R ap ar cp cr))
  case atStart => exact ⟨0, [], [], P0, R0, _, _, _, _, rfl, by omega, by omega, HI0⟩
  case round =>
   clear HI0
   obtain ⟨i, xs, L, P, R, ap, ar, cp, cr, rfl, hi1, hiq, HI⟩ := hrel
   obtain ⟨v0, hv0⟩ : ∃ v, v = u8 := ⟨_, rfl⟩
   rw [← hv0] at HI
   rw [← hv0]
   clear hv0
   obtain ⟨a0, c0, hv0, _, _, hc0, _⟩ := HI.out.row.shape
   have hxl : xs.length = i := by rw [HI.out.its.1, HI.out.len]
   rw [hxl] at hv0 hc0
   subst hv0
   have HXL : Hid (xs.length = i) := hxl
   obtain ⟨np, hnp⟩ : ∃ n, n = P.length := ⟨_, rfl⟩
   obtain ⟨nr, hnr⟩ : ∃ n, n = R.length := ⟨_, rfl⟩
   have HNP : Hid (np = P.length ∧ nr = R.length) := hid ⟨hnp, hnr⟩
   have hnpf : np ≤ fs := by rw [hnp]; exact HI.out.fit
   clear hnp hnr hxl
   by_cases hi : i < cnt
   ·have hli : decide (i < cnt) = true := by simp; omega
    obtain ⟨k, hk⟩ : ∃ k, cnt - i = k + 1 := ⟨cnt - i - 1, by omega⟩
    have HLF : Hid (cnt - i = k + 1 ∧ cnt - (i + 1) = k) := hid ⟨hk, by omega⟩
    have hiw : IntKind.i64.wrap ((i : Int) + 1) = ((i + 1 : Nat) : Int) := by rw [IntKind.wrap_i64]; omega
    have HEQ : Hid (o8 = opn8 fs (k + 1) P R L) := hid (by rw [← hk]; exact HI.out.eq)
    have H1 := rec_any w2.heap.size wr rb R ar cr HI.out.recs
    clear hk
    go_wp2_with fail
    refine H1.mono ?_
    intro e w4 h4
    cases ht : rec8 R with
    | none =>
     obtain ⟨rfl, hk4⟩ := h4.2 ht
     have HF : Hid (OpnA w2 w4 o8 (pan8 81)) := hid (OpnA.bad (by rw [HEQ.out]; exact opn8_rec ht) rfl (HI.out.same.then hk4 (fun x hx e => by have := HI.out.recs.new; omega)))
     clear h4 hk4 ht H1
     unfold pan8
     go_wp2_with fail
     exact ⟨rfl, HF.out⟩
    | some q =>
     obtain ⟨⟨m, at'⟩, R'⟩ := q
     obtain ⟨ar', cr', rfl, hmk, hnb, hat, hcur, hk4⟩ := h4.1 m at' R' ht
     have HT : Hid (rec8 R = some ((m, at'), R')) := ht
     have HM : Hid (MkOk m ∧ (∀ b ∈ m.name, b < 256)) := hid ⟨hmk, hnb⟩
     have hoff : (Value.slice a0 i c0).ownBlock ≠ some rb := HI.out.row.off HI.out.recs.blk (by decide)
     have HR4 : Hid (RowC w2.heap.size 78 6 itE w4 (.slice a0 i c0) xs) := hid (HI.out.row.kept hk4 (fun j e f => hoff (by rw [e, f])))
     have HI4 : Hid (Its w2.heap.size w4 xs L) := hid (HI.out.its.kept hk4 (fun x hx e => by have := HI.out.recs.new; omega))
     have HP4 : Hid (Cur w2.heap.size w4 pb P ap cp) := hid (HI.out.pie.kept hk4 HI.out.two (fun x hx e => by have := HI.out.recs.new; omega))
     have HC4 : Hid (Cur w2.heap.size w4 rb R' ar' cr') := hcur
     have HK4 : Hid (Same w2 w4) := hid (HI.out.same.then hk4 (fun x hx e => by have := HI.out.recs.new; omega))
     obtain ⟨wA, hwA⟩ : ∃ W, W = w4.alloc (.cells #[.int .u16 (m.way : Nat), .int .u32 (m.sum : Nat), .int .u32 (m.packed : Nat), .int .u32 (m.size : Nat), .string (txt m.name)] 60) := ⟨_, rfl⟩
     obtain ⟨lb, hlb⟩ : ∃ b, b = w4.heap.size := ⟨_, rfl⟩
     have HLA : Hid (LabBk wA lb m) := hid (by rw [hwA, hlb]; exact Blk.new w4 _ _)
     have HKA : Hid (Same w4 wA) := hid (by rw [hwA]; exact (Kept.refl _ w4).alloc _)
     have HCL := checkLabel_any wA m a0 i c0 _ _ (Itms.ofRow (HR4.out.kept HKA.out (fun _ _ f => f)) HXL.out.symm) (by omega) hnb (fun j hj => HI4.out.nam j (by have := HXL.out; omega)) (HX.out.kept (Same.trans HK4.out HKA.out) (fun f => f))
     have hnms : nmsOf (fun j => (xs.getD j default).m) i = names8 L := by have h9 := HI4.out.names; rw [HXL.out] at h9; exact h9
     rw [hnms] at HCL
     obtain ⟨c0', c1', c2', c3', c4'⟩ := HLA.out.cells
     obtain ⟨ck, hck⟩ : ∃ x, x = chk8 m (names8 L) := ⟨_, rfl⟩
     rw [← hck] at HCL
     have HCK : Hid (ck = chk8 m (names8 L)) := hck
     unfold mkZ at HCL ⊢
     clear h4 hk4 ht H1 hmk hnb hoff hcur hnms hck
     go_wp2_with fail
     rw [← hwA, ← hlb]
     clear hwA hlb
     refine HCL.mono ?_
     intro e w5 h5
     obtain ⟨h50, h51, hk5⟩ := h5
     have HK5 : Hid (Same w4 w5) := hid (Same.trans HKA.out hk5)
     by_cases hz : ck = 0
     ·have h50 := h50 hz
      subst h50
      have HZ : Hid (chk8 m (names8 L) = 0) := hid (by rw [← HCK.out]; exact hz)
      have HL5 : Hid (LabBk w5 lb m) := hid (HLA.out.kept hk5)
      have HP5 : Hid (Cur w2.heap.size w5 pb P ap cp) := hid (HP4.out.kept HK5.out (fun f => f) (fun _ _ f => f))
      obtain ⟨d0, d1, d2, d3, d4⟩ := HL5.out.cells
      have p0 : w5.cell? ⟨pb, 0, none⟩ = some (.slice ap np cp) := by have h9 := HP5.out.blk.cell 0; rw [HNP.out.1]; simpa using h9
      obtain ⟨dz, hdz⟩ : ∃ d, d = fs - np := ⟨_, rfl⟩
      have hdI : (fs : Int) - (np : Int) = (dz : Int) := by omega
      have hdw : IntKind.i64.wrap (dz : Int) = (dz : Int) := by rw [IntKind.wrap_i64]; omega
      have hdu : IntKind.u32.wrap (dz : Int) = (dz : Int) := by rw [IntKind.wrap_u32]; omega
      have HDZ : Hid (dz = fs - P.length) := hid (by rw [← HNP.out.1]; exact hdz)
      clear h51 hk5 HCL hz HCK c0' c1' c2' c3' c4' hdz HLA
      by_cases ha : at' = dz
      ·have hab : ((at' : Int) == (dz : Int)) = true := by simp; omega
       have HA : Hid (at' = fs - P.length) := hid (by rw [← HDZ.out]; exact ha)
       have HO := need_ok w5 (.int .i64 81)
       have HPI := pie_any w2.heap.size w5 pb m P ap cp HP5.out HM.out.1 HM.out.2 (chk8_zero HZ.out).2.2.2.2.1
       unfold mkZ at HPI
       clear ha hat
       go_wp2_with fail
       refine HO.mono ?_
       rintro e w6 ⟨rfl, hw6⟩
       subst hw6
       clear HO p0
       go_wp2_with fail
       refine HPI.mono ?_
       intro e w7 h7
       cases hp7 : pie8 m P with
       | none =>
        obtain ⟨rfl, hk7⟩ := h7.2 hp7
        have HF : Hid (OpnA w2 w7 o8 (pan8 81)) := hid (OpnA.bad (by rw [HEQ.out]; exact opn8_pie HT.out HZ.out HA.out hp7) rfl ((Same.trans HK4.out HK5.out).then hk7 (fun x hx e => by have := HP5.out.new; omega)))
        clear h7 hk7 hp7 HPI
        unfold pan8
        go_wp2_with fail
        exact ⟨rfl, HF.out⟩
       | some q =>
        obtain ⟨bb, P'⟩ := q
        obtain ⟨v7, ap', cp', rfl, htk, hcur, hk7⟩ := h7.1 bb P' hp7
        obtain ⟨va, vc, hv7⟩ := htk.shp
        subst hv7
        have HTK : Hid (Tkn w2.heap.size w7 (.slice va m.packed vc) m.packed bb) := htk
        have HC7 : Hid (Cur w2.heap.size w7 pb P' ap' cp') := hcur
        have hoff : (Value.slice a0 i c0).ownBlock ≠ some pb := (HR4.out.kept HK5.out (fun _ _ f => f)).off HP5.out.blk (by decide)
        have HR7 : Hid (RowC w2.heap.size 78 6 itE w7 (.slice a0 i c0) xs) := hid ((HR4.out.kept HK5.out (fun _ _ f => f)).kept hk7 (fun j e f => hoff (by rw [e, f])))
        have HI7 : Hid (Its w2.heap.size w7 xs L) := hid ((HI4.out.kept HK5.out (fun _ _ f => f)).kept hk7 (fun x hx e => by have := HP5.out.new; omega))
        have HRC7 : Hid (Cur w2.heap.size w7 rb R' ar' cr') := hid ((HC4.out.kept HK5.out (fun f => f) (fun _ _ f => f)).kept hk7 (fun e => HI.out.two e.symm) (fun x hx e => by have := HP5.out.new; omega))
        have HK7 : Hid (Same w2 w7) := hid ((Same.trans HK4.out HK5.out).then hk7 (fun x hx e => by have := HP5.out.new; omega))
        have HEQ7 : Hid (o8 = opn8 fs k P' R' (L ++ [⟨m, bb⟩])) := hid (by rw [HEQ.out]; exact opn8_next HT.out HZ.out HA.out hp7)
        have HFIT : Hid (P'.length ≤ fs) := hid (Nat.le_trans (pie8_len hp7).1 HI.out.fit)
        have hi64 : i ≤ 64 := by omega
        unfold itZ
        clear h7 htk hcur hk7 hp7 HPI hoff d0 d1 d2 d3 d4
        go_wp2_with (at_builtin; refine wpList_append_c _ itE 6 itE_ok (by decide) w2.heap.size 75 78 (.agg #[.int .u16 0, .int .u32 0, .int .u32 0, .int .u32 0, .string ⟨#[]⟩, .slice none 0 0]) 56 Tryz.underlying75 Tryz.infoItem rfl (by decide) rfl (.tmp 63) (.tmp 67) rfl (.slice a0 i c0) xs rfl (HR7.out.kept (show Same _ _ from (Kept.refl _ _).alloc _) (fun _ _ f => f)) ⟨w7.heap.size, 0, none⟩ 1 1 [⟨m, va, m.packed, vc⟩] rfl rfl (cellsAt_it w7 ⟨m, va, m.packed, vc⟩) (by have := HXL.out; simp; omega) (by have := HK7.out.size; simp; omega) ?_; intro v8 w8 hr8 hg8)
        obtain ⟨wB, hwB⟩ : ∃ W, W = w7.alloc (.cells #[.int .u16 (m.way : Nat), .int .u32 (m.sum : Nat), .int .u32 (m.packed : Nat), .int .u32 (m.size : Nat), .string (txt m.name), .slice va m.packed vc] 78) := ⟨_, rfl⟩
        have hg8' : wB.grownBy w8 (Value.slice a0 i c0).ownBlock := by rw [hwB]; exact hg8
        have hkB : Same w7 wB := by rw [hwB]; exact (Kept.refl _ w7).alloc _
        have hk8 : Kept (fun k => (Value.slice a0 i c0).ownBlock = some k) wB w8 := (Kept.refl _ wB).grown hg8' (fun k e => .inl e)
        have hlow : ∀ x, x < w2.heap.size → ¬ (Value.slice a0 i c0).ownBlock = some x := fun x hx e => by have := HR7.out.ge e; omega
        have HF : Hid (OpI w2 w8 fs o8 (cnt - (i + 1)) pb rb (i + 1) v8 (xs ++ [⟨m, va, m.packed, vc⟩]) (L ++ [⟨m, bb⟩]) P' R' ap' ar' cp' cr') := hid (by
         refine ⟨hr8, ?_, by rw [List.length_append, HI.out.len]; rfl, ?_, ?_, (Same.trans HK7.out hkB).then hk8 hlow, by rw [HLF.out.2]; exact HEQ7.out, HI.out.two, HFIT.out⟩
         ·refine ((HI7.out.kept hkB (fun _ _ f => f)).kept hk8 hlow).snoc ?_
          exact ⟨rfl, (HTK.out.src.kept hkB (fun _ _ _ f => f)).kept hk8 (fun x hx _ => hlow x hx), HTK.out.len.symm, HTK.out.byte, HM.out.2, HM.out.1, HTK.out.len, ⟨_, HZ.out⟩, fun e => HTK.out.adr m.packed vc (by show Value.slice va m.packed vc = _; rw [show va = none from e])⟩
         ·refine (HC7.out.kept hkB (fun f => f) (fun _ _ f => f)).kept hk8 (fun e => ?_) hlow
          exact (HR7.out.off HC7.out.blk (by decide)) e
         ·refine (HRC7.out.kept hkB (fun f => f) (fun _ _ f => f)).kept hk8 (fun e => ?_) hlow
          exact (HR7.out.off HRC7.out.blk (by decide)) e)
        clear hr8 hg8 hwB hg8' hkB hk8 hlow
        go_wp2_with fail
        go_roundg (gk - 1)
        case measure => omega
        case rel => exact ⟨i + 1, _, _, _, _, _, _, _, _, by go_num, by omega, by omega, HF⟩
      ·have hab : ((at' : Int) == (dz : Int)) = false := by simp; omega
       have HO := need_bad w5 81
       have HF : Hid (OpnA w2 w5 o8 (pan8 81)) := hid (OpnA.bad (by rw [HEQ.out]; exact opn8_at HT.out HZ.out (by rw [← HDZ.out]; exact ha)) rfl (Same.trans HK4.out HK5.out))
       clear ha
       go_wp2_with fail
       refine HO.mono ?_
       rintro e w6 ⟨rfl, hw6⟩
       subst hw6
       clear HO
       unfold pan8
       go_wp2_with fail
       exact ⟨rfl, HF.out⟩
     ·have h51 := h51 hz
      subst h51
      have HF : Hid (OpnA w2 w5 o8 (pan8 ck)) := hid (OpnA.bad (by rw [HEQ.out, HCK.out]; exact opn8_chk HT.out (by rw [← HCK.out]; exact hz)) rfl (Same.trans HK4.out HK5.out))
      clear h50 hk5 HCL hz c0' c1' c2' c3' c4'
      unfold pan8
      go_wp2_with fail
      exact ⟨rfl, HF.out⟩
   ·have hli : decide (i < cnt) = false := by simp; omega
    obtain rfl : i = cnt := by omega
    have HEQ : Hid (o8 = if np = 0 ∧ nr = 0 then .ok L else .error 81) := hid (by rw [HI.out.eq, Nat.sub_self, opn8, HNP.out.1, HNP.out.2])
    have p0 : wr.cell? ⟨pb, 0, none⟩ = some (.slice ap np cp) := by have h9 := HI.out.pie.blk.cell 0; rw [HNP.out.1]; simpa using h9
    have r0 : wr.cell? ⟨rb, 0, none⟩ = some (.slice ar nr cr) := by have h9 := HI.out.recs.blk.cell 0; rw [HNP.out.2]; simpa using h9
    by_cases hp0 : np = 0
    ·have q1 : ((np : Int) == 0) = true := by simp; omega
     by_cases hr0 : nr = 0
     ·have q2 : ((nr : Int) == 0) = true := by simp; omega
      have HO := need_ok wr (.int .i64 81)
      have HE2 : Hid (o8 = .ok L) := hid (by rw [HEQ.out, if_pos ⟨hp0, hr0⟩])
      clear hp0 hr0
      go_wp2_with fail
      refine HO.mono ?_
      rintro e w6 ⟨rfl, hw6⟩
      subst hw6
      clear HO
      go_wp2_with fail
      go_ret
      exact OpnA.good HE2.out rfl HI.out.row HI.out.its HXL.out.symm hc0 (by omega) HI.out.same
     ·have q2 : ((nr : Int) == 0) = false := by simp; omega
      have HO := need_bad wr 81
      have HF : Hid (OpnA w2 wr o8 (pan8 81)) := hid (OpnA.bad (by rw [HEQ.out, if_neg (fun h => hr0 h.2)]) rfl HI.out.same)
      clear hr0 hp0
      go_wp2_with fail
      refine HO.mono ?_
      rintro e w6 ⟨rfl, hw6⟩
      subst hw6
      clear HO
      unfold pan8
      go_wp2_with fail
      exact ⟨rfl, HF.out⟩
    ·have q1 : ((np : Int) == 0) = false := by simp; omega
     have HO := need_bad wr 81
     have HF : Hid (OpnA w2 wr o8 (pan8 81)) := hid (OpnA.bad (by rw [HEQ.out, if_neg (fun h => hp0 h.1)]) rfl HI.out.same)
     clear hp0
     go_wp2_with fail
     refine HO.mono ?_
     rintro e w6 ⟨rfl, hw6⟩
     subst hw6
     clear HO
     unfold pan8
     go_wp2_with fail
     exact ⟨rfl, HF.out⟩

end Go.Proofs.YtljlmfnbeofmmaaGreatDoor

namespace Go.Proofs.YtljlmfnbeofmmaaGreatDoor
open Go.RowKit

def pre8 (D : List (List Nat × List Nat)) (o : Except Nat (List (List Nat × List Nat))) : Except Nat (List (List Nat × List Nat)) := match o with
 | .error e => .error e
 | .ok r => .ok (D ++ r)

theorem pre8_bad {D : List (List Nat × List Nat)} {L : List It} {j k : Nat} {y : It} (h : L[j]? = some y) (hu : unp8 y = .error k) : pre8 D (all8 (L.drop j)) = .error k := by
 have hj := (List.getElem?_eq_some_iff.1 h).1
 have e := (List.getElem?_eq_some_iff.1 h).2
 rw [List.drop_eq_getElem_cons hj, e, all8, hu]
 rfl

theorem pre8_next {D : List (List Nat × List Nat)} {L : List It} {j : Nat} {y : It} {d : List Nat} (h : L[j]? = some y) (hu : unp8 y = .ok d) : pre8 D (all8 (L.drop j)) = pre8 (D ++ [(y.lab.name, d)]) (all8 (L.drop (j + 1))) := by
 have hj := (List.getElem?_eq_some_iff.1 h).1
 have e := (List.getElem?_eq_some_iff.1 h).2
 rw [List.drop_eq_getElem_cons hj, e, all8, hu]
 simp only
 cases all8 (L.drop (j + 1)) with
 | error e => rfl
 | ok r => simp [pre8]

def enOf (p : List Nat × List Nat) : En := ⟨txt p.1, txt p.2⟩

def AllA (w w' : World) (o : Except Nat (List (List Nat × List Nat))) (e : Ending) : Prop :=
 (∀ k, o = .error k → e = pan8 k) ∧ (∀ D, o = .ok D → ∃ a n c, e = .returned (.slice a n c) ∧ RowC w.heap.size 34 2 enE w' (.slice a n c) (D.map enOf) ∧ n = D.length) ∧ Same w w'

theorem AllA.bad {w w' : World} {o : Except Nat (List (List Nat × List Nat))} {e : Ending} {k : Nat} (h : o = .error k) (he : e = pan8 k) (hk : Same w w') : AllA w w' o e :=
 ⟨fun n h' => by rw [h] at h'; simp only [Except.error.injEq] at h'; subst h'; exact he, fun d h' => (by rw [h] at h'; cases h'), hk⟩

structure UaI (w wr : World) (L : List It) (i : Nat) (v : Value) (D : List (List Nat × List Nat)) : Prop where
 row : RowC w.heap.size 34 2 enE wr v (D.map enOf)
 len : D.length = i
 same : Same w wr
 eq : all8 L = pre8 D (all8 (L.drop i))

theorem cellsAt_en (w : World) (y : En) : CellsAt (w.alloc (.cells #[.string y.n, .string y.d] 34)) ⟨w.heap.size, 0, none⟩ ([y].flatMap enE) := by
 intro j u hj
 match j, hj with
 | 0, hj => simp [enE] at hj; subst hj; simp [addAt]
 | 1, hj => simp [enE] at hj; subst hj; simp [addAt]
 | j + 2, hj => simp [enE] at hj

set_option maxRecDepth 100000 in
set_option maxHeartbeats 400000 in
theorem unpackAll_any (N : Nat) (w : World) (a : Option Addr) (n c : Nat) (xs : List Itv) (L : List It) (hrow : RowC N 78 6 itE w (.slice a n c) xs) (hits : Its N w xs L) (hn : n = xs.length) (h64 : n ≤ 64)
  (hU : ∀ (j : Nat) (x : Itv) (y : It) (wx : World), xs[j]? = some x → L[j]? = some y → Same w wx → Calls Tryz.prog 59 #[.agg (itZ x.m (.slice x.a x.n x.c))] wx fun e w' => UnpZ wx w' (unp8 y) e) :
  Calls Tryz.prog 54 #[.slice a n c] w fun e w' => AllA w w' (all8 L) e := by
 have HU : Hid _ := hid hU
 have HROW : Hid (RowC N 78 6 itE w (.slice a n c) xs) := hrow
 have HITS : Hid (Its N w xs L) := hits
 have HN : Hid (n = xs.length ∧ n = L.length) := hid ⟨hn, by rw [hn]; exact hits.1⟩
 clear hU hrow hits hn
 go_enter Tryz.func54, Tryz.ntmps54
 go_wp2_with fail
 go_loopg [3, 8] n (fun qq z3 z8 wr => ∃ (i : Nat) (D : List (List Nat × List Nat)), z8 = .int .i64 (i : Nat) ∧ i ≤ n ∧ n - i ≤ qq ∧ Hid (UaI w wr L i z3 D))
 case atStart => exact ⟨0, [], rfl, by omega, by omega, hid ⟨RowC.nil, rfl, Kept.refl _ _, by simp [pre8]; cases all8 L <;> rfl⟩⟩
 case round =>
  obtain ⟨i, D, rfl, hi1, hiq, HI⟩ := hrel
  obtain ⟨v0, hv0⟩ : ∃ v, v = u3 := ⟨_, rfl⟩
  rw [← hv0] at HI
  rw [← hv0]
  clear hv0
  obtain ⟨a0, c0, hv0, _⟩ := HI.out.row.shape
  rw [List.length_map, HI.out.len] at hv0
  subst hv0
  by_cases hi : i < n
  ·have hli : decide (i < n) = true := by simp; omega
   have hx := List.getElem?_eq_getElem (l := xs) (i := i) (by have := HN.out; omega)
   have hy := List.getElem?_eq_getElem (l := L) (i := i) (by have := HN.out; omega)
   obtain ⟨x, hxx⟩ : ∃ x, x = xs[i]'(by have := HN.out; omega) := ⟨_, rfl⟩
   obtain ⟨y, hyy⟩ : ∃ y, y = L[i]'(by have := HN.out; omega) := ⟨_, rfl⟩
   rw [← hxx] at hx
   rw [← hyy] at hy
   obtain ⟨g, cap, hv, _, hc⟩ := HROW.out.at8 itE_ok i (by have := HN.out; omega)
   rw [← hxx] at hc
   simp only [Value.slice.injEq] at hv
   have hv1 := hv.1
   clear hv
   subst hv1
   have hcx : ∀ k u, k < 6 → (itE x)[k]? = some u → wr.cell? ⟨g, i * 6 + k, none⟩ = some u := fun k u h1 h2 => HI.out.same.cell ((hc k h1).trans h2) (fun f => f)
   have k0 := hcx 0 _ (by decide) rfl
   have k1 := hcx 1 _ (by decide) rfl
   have k2 := hcx 2 _ (by decide) rfl
   have k3 := hcx 3 _ (by decide) rfl
   have k4 := hcx 4 _ (by decide) rfl
   have k5 := hcx 5 _ (by decide) rfl
   rw [Nat.add_zero] at k0
   have hiw : IntKind.i64.wrap ((i : Int) + 1) = ((i + 1 : Nat) : Int) := by rw [IntKind.wrap_i64]; omega
   have i1 : (0 : Int) ≤ (i : Int) := by omega
   have i2 : (i : Int) < (n : Int) := by omega
   have HY : Hid (L[i]? = some y) := hy
   have HXL : Hid (x.m = y.lab) := hid (HITS.out.2 i x y hx hy).lab
   obtain ⟨wA, hwA⟩ : ∃ W, W = wr.alloc (.cells (itZ x.m (.slice x.a x.n x.c)) 78) := ⟨_, rfl⟩
   obtain ⟨xb, hxb⟩ : ∃ b, b = wr.heap.size := ⟨_, rfl⟩
   have HKA : Hid (Same wr wA) := hid (by rw [hwA]; exact (Kept.refl _ wr).alloc _)
   have HXA : Hid (Blk wA xb (itZ x.m (.slice x.a x.n x.c)) 78) := hid (by rw [hwA, hxb]; exact Blk.new wr _ _)
   have HC : Hid (∀ wx, Same wA wx → Calls Tryz.prog 59 #[.agg (itZ x.m (.slice x.a x.n x.c))] wx fun e w' => UnpZ wx w' (unp8 y) e) := hid (fun wx hk => HU.out i x y wx hx hy (Same.trans HI.out.same (Same.trans HKA.out hk)))
   clear hxx hyy hx hy hc hcx
   unfold itZ at hwA HC HXA
   have q0 : wA.cell? ⟨xb, 0, none⟩ = some (.int .u16 (x.m.way : Nat)) := HXA.out.cell 0
   have q1 : wA.cell? ⟨xb, 1, none⟩ = some (.int .u32 (x.m.sum : Nat)) := HXA.out.cell 1
   have q2 : wA.cell? ⟨xb, 2, none⟩ = some (.int .u32 (x.m.packed : Nat)) := HXA.out.cell 2
   have q3 : wA.cell? ⟨xb, 3, none⟩ = some (.int .u32 (x.m.size : Nat)) := HXA.out.cell 3
   have q4 : wA.cell? ⟨xb, 4, none⟩ = some (.string (txt x.m.name)) := HXA.out.cell 4
   have q5 : wA.cell? ⟨xb, 5, none⟩ = some (.slice x.a x.n x.c) := HXA.out.cell 5
   cases hu : unp8 y with
   | error k =>
    rw [hu] at HC
    have HE : Hid (all8 L = .error k) := hid (by rw [HI.out.eq]; exact pre8_bad HY.out hu)
    clear hu
    go_wp2_with fail
    rw [← hwA, ← hxb]
    clear hwA hxb
    go_region_dies
    all_goals
     refine (HC.out _ ((Kept.refl _ wA).drew)).mono ?_
     intro e w4 h4
     obtain rfl := h4.2.1 k rfl
     exact ⟨rfl, AllA.bad HE.out rfl (Same.trans HI.out.same (Same.trans HKA.out (Same.trans ((Kept.refl _ wA).drew) h4.2.2)))⟩
   | ok d =>
    rw [hu] at HC
    have HE : Hid (all8 L = pre8 (D ++ [(y.lab.name, d)]) (all8 (L.drop (i + 1)))) := hid (by rw [HI.out.eq]; exact pre8_next HY.out hu)
    clear hu
    go_wp2_with fail
    rw [← hwA, ← hxb]
    clear hwA hxb
    have HSZ : Hid (w.heap.size ≤ wr.heap.size ∧ xb < wA.heap.size) := hid ⟨HI.out.same.size, HXA.out.lt⟩
    have HOX : Hid ((Value.slice a0 i c0).ownBlock ≠ some xb) := hid ((HI.out.row.kept HKA.out (fun _ _ f => f)).off HXA.out (by decide))
    go_region_held3 (fun w' => w'.cell? ⟨xb, 0, none⟩ = some (.int .u16 (x.m.way : Nat)) ∧ w'.cell? ⟨xb, 1, none⟩ = some (.int .u32 (x.m.sum : Nat)) ∧ w'.cell? ⟨xb, 2, none⟩ = some (.int .u32 (x.m.packed : Nat)) ∧ w'.cell? ⟨xb, 3, none⟩ = some (.int .u32 (x.m.size : Nat)) ∧ w'.cell? ⟨xb, 4, none⟩ = some (.string (txt x.m.name)) ∧ w'.cell? ⟨xb, 5, none⟩ = some (.slice x.a x.n x.c))
     (first
      | (go_split_ands; exact ⟨hk5.cell (by assumption) HOX.out, hk5.cell (by assumption) HOX.out, hk5.cell (by assumption) HOX.out, hk5.cell (by assumption) HOX.out, hk5.cell (by assumption) HOX.out, hk5.cell (by assumption) HOX.out⟩)
      | (go_split_ands; exact ⟨hk4.cell (by assumption) (fun f => f), hk4.cell (by assumption) (fun f => f), hk4.cell (by assumption) (fun f => f), hk4.cell (by assumption) (fun f => f), hk4.cell (by assumption) (fun f => f), hk4.cell (by assumption) (fun f => f)⟩)
      | go_keep)
     (first
      | (go_at_call 59; refine (HC.out _ (by first | exact (Kept.refl _ _).drew | exact Kept.refl _ _ | exact (Kept.refl _ _).drewN _)).mono ?_; intro e w4 h4; obtain rfl := h4.1 d rfl; have hk4 := h4.2.2; clear h4)
      | (have hw4 : Same wA w4 := Same.trans ((Kept.refl _ wA).drew) hk4; refine step_append_c enE 2 enE_ok w.heap.size 24 34 (.agg #[.string ⟨#[]⟩, .string ⟨#[]⟩]) 32 Tryz.underlying24 Tryz.infoEntry rfl (by decide) (by rfl) (.tmp 12) (.tmp 19) (by rfl) (.slice a0 i c0) (D.map enOf) (by rfl) (((HI.out.row.kept HKA.out (fun _ _ f => f)).kept hw4 (fun _ _ f => f)).kept (show Same _ _ from (Kept.refl _ _).alloc _) (fun _ _ f => f)) ⟨w4.heap.size, 0, none⟩ 1 1 [⟨txt x.m.name, txt d⟩] (by rfl) (by rfl) (cellsAt_en w4 ⟨txt x.m.name, txt d⟩) (by rw [List.length_map, HI.out.len]; simp; omega) (by have := HSZ.out; have := HKA.out.size; have := hw4.size; simp; omega) ?_; intro v5 w5 hr5 hg5; have hk5 : Kept (fun k => (Value.slice a0 i c0).ownBlock = some k) (w4.alloc (.cells #[.string (txt x.m.name), .string (txt d)] 34)) w5 := (Kept.refl _ _).grown hg5 (fun k e => .inl e); clear hg5))
    all_goals
     have HF : Hid (UaI w w5 L (i + 1) v5 (D ++ [(y.lab.name, d)])) := hid ⟨by rw [List.map_append]; show RowC _ _ _ _ _ _ (D.map enOf ++ [enOf (y.lab.name, d)]); rw [← HXL.out]; exact hr5, by rw [List.length_append, HI.out.len]; rfl, (Same.trans HI.out.same (Same.trans HKA.out (Same.trans ((Kept.refl _ wA).drew) (Same.trans hk4 (show Same w4 (w4.alloc (.cells #[.string (txt x.m.name), .string (txt d)] 34)) from (Kept.refl _ _).alloc _))))).then hk5 (fun x hx e => by have := HI.out.row.ge e; omega), HE.out⟩
     clear hr5 hk5 hk4
     go_wp2_with fail
     go_roundg (gk - 1)
     case measure => omega
     case rel => exact ⟨i + 1, _, by go_num, by omega, by omega, HF⟩
  ·have hli : decide (i < n) = false := by simp; omega
   obtain rfl : i = n := by omega
   go_wp2_with fail
   go_ret
   have h9 := HI.out.eq
   rw [List.drop_eq_nil_of_le (by have := HN.out; omega)] at h9
   refine ⟨fun k e => (by rw [h9] at e; cases e), fun D' e => ?_, HI.out.same⟩
   rw [h9] at e
   simp only [pre8, all8, List.append_nil, Except.ok.injEq] at e
   subst e
   exact ⟨_, _, _, rfl, HI.out.row, HI.out.len.symm⟩

end Go.Proofs.YtljlmfnbeofmmaaGreatDoor

namespace Go.Proofs.YtljlmfnbeofmmaaGreatDoor
open Go.RowKit

theorem end8_ok {r : List Nat} {p n f : Nat} (h : end8 r p = .ok (n, f)) : f ≤ p ∧ n ≤ 64 := by
 unfold end8 at h
 split at h
 ·cases h
 ·split at h
  ·cases h
  ·split at h
   ·cases h
   ·simp only [Except.ok.injEq, Prod.mk.injEq] at h
    omega

theorem open_any (w : World) (a : Option Addr) (n c : Nat) (bs : List Nat) (hs : Src w (fun k => k < w.heap.size) (.slice a n c) bs) (hL : n = bs.length) (hb : ∀ x ∈ bs, x < 256) (hcap : n ≤ c) (hn : n ≤ 100000000) (hx : Mxl w) :
  Calls Tryz.prog 51 #[.slice a n c] w fun e w' => OpnA w w' (opf8 bs) e := by
 by_cases h1 : 1048576 < n
 ·refine (open_long w a n c h1 hn).mono ?_
  rintro e w' ⟨he, hk⟩
  exact OpnA.bad (by unfold opf8; rw [if_pos (by omega)]) he hk
 ·by_cases h2 : n < 22
  ·refine (open_short w a n c h2).mono ?_
   rintro e w' ⟨he, hk⟩
   exact OpnA.bad (by unfold opf8; rw [if_neg (by omega), if_pos (by omega)]) he hk
  ·obtain ⟨b, o, ha⟩ : ∃ b o, a = some ⟨b, o, none⟩ := by
    obtain ⟨ao, cap, e, h9⟩ := id hs
    simp only [Value.slice.injEq] at e
    obtain ⟨b, o, e4, _⟩ := h9 (fun e => by rw [e] at hL; simp at hL; omega)
    exact ⟨b, o, by rw [e.1]; exact e4⟩
   subst ha
   have e1 : opf8 bs = match end8 (bs.drop (n - 22)) (n - 22) with
     | .error e => .error e
     | .ok x => opn8 x.2 x.1 (bs.take x.2) ((bs.take (n - 22)).drop x.2) [] := by
    unfold opf8
    rw [if_neg (by omega), if_neg (by omega), hL]
    rfl
   cases he : end8 (bs.drop (n - 22)) (n - 22) with
   | error x =>
    rw [he] at e1
    refine (open_end w b o c bs n hL hs hb hcap (by omega) (by omega) x he).mono ?_
    rintro e w' ⟨he, hk⟩
    exact OpnA.bad e1 he hk
   | ok x =>
    obtain ⟨cnt, fs⟩ := x
    rw [he] at e1
    obtain ⟨h3, h4⟩ := end8_ok he
    rw [e1]
    exact open_loop w b o c bs n hL hs hb hcap (by omega) (by omega) cnt fs he h3 h4 hx

theorem unpz_zero {N : Nat} {w : World} {x : Itv} {y : It} (h : ItAt N w x y) (hz : y.lab.way = 0) : Calls Tryz.prog 59 #[.agg (itZ x.m (.slice x.a x.n x.c))] w fun e w' => UnpZ w w' (unp8 y) e := by
 rw [h.lab]
 obtain ⟨a, ha⟩ := h.ck
 have hl : y.bytes.length ≤ 100000 := by have := (chk8_zero ha).2.2.2.2.1; have := h.pk; omega
 by_cases hq : more 0 y.bytes = y.lab.sum
 ·have e : unp8 y = .ok y.bytes := by unfold unp8; rw [if_neg (by omega), if_pos hq]
  rw [e]
  exact unpack0_good w y.lab x.a x.n x.c _ y.bytes h.src h.byte hl hz hq
 ·have e : unp8 y = .error 83 := by unfold unp8; rw [if_neg (by omega), if_neg hq]
  rw [e]
  exact unpack0_bad w y.lab x.a x.n x.c _ y.bytes h.src h.byte hl hz hq

def UnpOk (w : World) (L : List It) : Prop := ∀ (N : Nat) (wx : World) (x : Itv) (y : It), y ∈ L → ItAt N wx x y → Same w wx → Calls Tryz.prog 59 #[.agg (itZ x.m (.slice x.a x.n x.c))] wx fun e w' => UnpZ wx w' (unp8 y) e

theorem UnpOk.zero (w : World) (L : List It) (h : ∀ y ∈ L, y.lab.way = 0) : UnpOk w L := fun _ _ _ y hy hi _ => unpz_zero hi (h y hy)

def rd8 (bs : List Nat) : Except Nat (List (List Nat × List Nat)) := match opf8 bs with
 | .error e => .error e
 | .ok L => all8 L

def RdA (w w' : World) (o : Except Nat (List (List Nat × List Nat))) (e : Ending) : Prop :=
 (∀ k, o = .error k → e = .returned (.tuple #[.slice none 0 0, .int .i64 (k : Nat)])) ∧ (∀ D, o = .ok D → ∃ a n c, e = .returned (.tuple #[.slice a n c, .int .i64 0]) ∧ RowC w.heap.size 34 2 enE w' (.slice a n c) (D.map enOf) ∧ n = D.length) ∧ Same w w'

set_option maxRecDepth 100000 in
set_option maxHeartbeats 400000 in
theorem read_any (w : World) (a : Option Addr) (n c : Nat) (bs : List Nat) (hs : Src w (fun k => k < w.heap.size) (.slice a n c) bs) (hL : n = bs.length) (hb : ∀ x ∈ bs, x < 256) (hcap : n ≤ c) (hn : n ≤ 100000000) (hx : Mxl w) (hU : ∀ L, opf8 bs = .ok L → UnpOk w L) :
  Calls Tryz.prog 20 #[.slice a n c] w fun e w' => RdA w w' (rd8 bs) e := by
 have hmf : ∀ (fn : Fn) (first cap : Array Value) (w : World), (Instr.makeFunc fn first cap).run Tryz.prog w = .ok (.func fn first cap) w := fun _ _ _ _ => rfl
 obtain ⟨W1, hW1⟩ : ∃ W, W = w.alloc (.cells #[.int .i64 0] 27) := ⟨_, rfl⟩
 obtain ⟨eb, heb⟩ : ∃ b, b = w.heap.size := ⟨_, rfl⟩
 have HK1 : Hid (Same w W1) := hid (by rw [hW1]; exact (Kept.refl _ w).alloc _)
 have HB1 : Hid (Blk W1 eb #[.int .i64 0] 27) := hid (by rw [hW1, heb]; exact Blk.new w _ _)
 have HO := open_any W1 a n c bs ((hs.kept HK1.out (fun _ _ _ f => f)).mono (fun k hk => Nat.lt_of_lt_of_le hk HK1.out.size)) hL hb hcap hn (hx.kept HK1.out (fun f => f))
 have HEB : Hid (eb = w.heap.size) := heb
 have HU : Hid (∀ L, opf8 bs = .ok L → UnpOk w L) := hU
 clear hs hL hb hcap hx hU
 go_enter_defers Tryz.func20, Tryz.ntmps20
 go_wp2_with fail
 rw [← hW1, ← heb]
 clear hW1 heb
 refine HO.mono ?_
 intro e w1 h1
 obtain ⟨hbad, hgood, hk1⟩ := h1
 have HB2 : Hid (Blk w1 eb #[.int .i64 0] 27) := hid (HB1.out.kept hk1 (fun f => f))
 have HK2 : Hid (Same w w1) := hid (Same.trans HK1.out hk1)
 cases ho : opf8 bs with
 | error k =>
  obtain rfl := hbad k ho
  have HE : Hid (rd8 bs = .error k) := hid (by unfold rd8; rw [ho])
  clear hk1 HO hbad hgood ho
  unfold pan8
  go_wp2_with fail
  have c0 : w1.cell? ⟨eb, 0, none⟩ = some (.int .i64 0) := HB2.out.cell 0
  have z0 := HB2.out.frozen 0
  have d0 : (w1.setCell ⟨eb, 0, none⟩ (.int .i64 (k : Nat))).cell? ⟨eb, 0, none⟩ = some (.int .i64 (k : Nat)) := by have := (HB2.out.set 0 (.int .i64 (k : Nat))).cell 0; simpa using this
  have HKF : Hid (Same w (w1.setCell ⟨eb, 0, none⟩ (.int .i64 (k : Nat)))) := hid (HK2.out.setCell _ _ (.inr (by have h9 := HEB.out; show w.heap.size ≤ eb; omega)))
  refine leaves_cons (f := 53) (args := #[.pointer (some ⟨eb, 0, none⟩)]) (by simp) (by simp [go_sem]) ?_
  refine (rcatch_panicking eb 0 k w1 c0 z0).mono ?_
  rintro e u' w'' ⟨rfl, rfl, rfl⟩
  simp [Leaves, settle, results, Tryz.results20, go_sem, d0]
  exact ⟨fun k' e => by rw [HE.out] at e; simp only [Except.error.injEq] at e; subst e; rfl, fun D e => (by rw [HE.out] at e; cases e), HKF.out⟩
 | ok L =>
  obtain ⟨a1, n1, c1, xs, rfl, hr1, hi1, hn1, hc1, h64⟩ := hgood L ho
  have HE : Hid (rd8 bs = all8 L) := hid (by unfold rd8; rw [ho])
  have HUL := HU.out L ho
  have HA := unpackAll_any W1.heap.size w1 a1 n1 c1 xs L hr1 hi1 hn1 h64 (fun j x y wx hx hy hk => HUL W1.heap.size wx x y (List.mem_of_getElem? hy) ((hi1.2 j x y hx hy).kept hk (fun _ _ f => f)) (Same.trans HK2.out hk))
  clear hk1 HO hbad hgood ho hr1 hi1 hn1 hc1 HUL
  go_wp2_with fail
  refine HA.mono ?_
  intro e w2 h2
  obtain ⟨hbad, hgood, hk2⟩ := h2
  have HB3 : Hid (Blk w2 eb #[.int .i64 0] 27) := hid (HB2.out.kept hk2 (fun f => f))
  have HK3 : Hid (Same w w2) := hid (Same.trans HK2.out hk2)
  have c0 : w2.cell? ⟨eb, 0, none⟩ = some (.int .i64 0) := HB3.out.cell 0
  have z0 := HB3.out.frozen 0
  cases hq : all8 L with
  | error k =>
   obtain rfl := hbad k hq
   have HE : Hid (rd8 bs = .error k) := hid (by rw [HE.out, hq])
   clear hbad hgood hk2 hq HA
   unfold pan8
   go_wp2_with fail
   have d0 : (w2.setCell ⟨eb, 0, none⟩ (.int .i64 (k : Nat))).cell? ⟨eb, 0, none⟩ = some (.int .i64 (k : Nat)) := by have := (HB3.out.set 0 (.int .i64 (k : Nat))).cell 0; simpa using this
   have HKF : Hid (Same w (w2.setCell ⟨eb, 0, none⟩ (.int .i64 (k : Nat)))) := hid (HK3.out.setCell _ _ (.inr (by have h9 := HEB.out; show w.heap.size ≤ eb; omega)))
   refine leaves_cons (f := 53) (args := #[.pointer (some ⟨eb, 0, none⟩)]) (by simp) (by simp [go_sem]) ?_
   refine (rcatch_panicking eb 0 k w2 c0 z0).mono ?_
   rintro e u' w'' ⟨rfl, rfl, rfl⟩
   simp [Leaves, settle, results, Tryz.results20, go_sem, d0]
   exact ⟨fun k' e => by rw [HE.out] at e; simp only [Except.error.injEq] at e; subst e; rfl, fun D e => (by rw [HE.out] at e; cases e), HKF.out⟩
  | ok D =>
   obtain ⟨a2, n2, c2, rfl, hr2, hn2⟩ := hgood D hq
   have HE : Hid (rd8 bs = .ok D) := hid (by rw [HE.out, hq])
   have HR2 : Hid (RowC w.heap.size 34 2 enE w2 (.slice a2 n2 c2) (D.map enOf) ∧ n2 = D.length) := hid ⟨hr2.base HK2.out.size, hn2⟩
   clear hbad hgood hk2 hq HA hr2 hn2
   go_wp2_with fail
   obtain ⟨w3, hw3⟩ : ∃ W, W = w2.setCell ⟨eb, 0, none⟩ (.int .i64 0) := ⟨_, rfl⟩
   have hb3 : Blk w3 eb #[.int .i64 0] 27 := by rw [hw3]; have := HB3.out.set 0 (.int .i64 0); simpa using this
   have HKF : Hid (Same w (w3.setCell ⟨eb, 0, none⟩ (.int .i64 0))) := hid (by rw [hw3]; exact (HK3.out.setCell _ _ (.inr (by have h9 := HEB.out; show w.heap.size ≤ eb; omega))).setCell _ _ (.inr (by have h9 := HEB.out; show w.heap.size ≤ eb; omega)))
   have hks : Kept (· = eb) w2 (w3.setCell ⟨eb, 0, none⟩ (.int .i64 0)) := by rw [hw3]; exact ((Kept.refl (· = eb) w2).setCell _ _ (.inl rfl)).setCell _ _ (.inl rfl)
   have HRF : Hid (RowC w.heap.size 34 2 enE (w3.setCell ⟨eb, 0, none⟩ (.int .i64 0)) (.slice a2 n2 c2) (D.map enOf)) := hid (HR2.out.1.kept hks (fun j e f => HR2.out.1.off HB3.out (by decide) (by rw [e, f])))
   have d0 : (w3.setCell ⟨eb, 0, none⟩ (.int .i64 0)).cell? ⟨eb, 0, none⟩ = some (.int .i64 0) := by have := (hb3.set 0 (.int .i64 0)).cell 0; simpa using this
   rw [← hw3]
   refine leaves_cons (f := 53) (args := #[.pointer (some ⟨eb, 0, none⟩)]) (by simp) (by simp [go_sem]) ?_
   refine (rcatch_idle eb 0 w3 (hb3.cell 0) (hb3.frozen 0)).mono ?_
   rintro e u' w'' ⟨rfl, rfl, rfl⟩
   simp [Leaves, settle, results, Tryz.results20, go_sem, d0]
   exact ⟨fun k' e => (by rw [HE.out] at e; cases e), fun D' e => by rw [HE.out] at e; simp only [Except.ok.injEq] at e; subst e; exact ⟨a2, n2, c2, rfl, HRF.out, HR2.out.2⟩, HKF.out⟩

end Go.Proofs.YtljlmfnbeofmmaaGreatDoor

namespace Go.Proofs.YtljlmfnbeofmmaaGreatDoor
open Go.RowKit

set_option maxHeartbeats 400000 in
theorem zlent_any (w : World) (v : Value) (I : Nat → Prop) (cs : List Nat) (hsrc : Src w I v cs) (hlen : cs.length ≤ 100000000) :
  Calls Tryz.prog 18 #[v] w fun e w' => ∃ g, e = .returned (.slice (some ⟨g, 0, none⟩) cs.length (cs.length + 1)) ∧ Row w' (.slice (some ⟨g, 0, none⟩) (cs.length + 1) (cs.length + 1)) (cs ++ [99]) ∧ Kept (fun _ => False) w w' ∧ w.heap.size ≤ g := by
 obtain ⟨ao, cap, rfl, _⟩ := id hsrc
 have HS : Hid (Src w I (.slice ao cs.length cap) cs) := hsrc
 clear hsrc
 go_enter Tryz.func18, Tryz.ntmps18
 go_wp2_with (first | (at_make; refine wpList_make_bytes _ rfl _ _ rfl _ _ _ _ (cs.length + 1) rfl rfl (by omega) (by omega) (by omega) ?_; intro w1 hr1 hg1 hs1; have HR : Hid (Row w1 (.slice (some ⟨w.heap.size, 0, none⟩) (cs.length + 1) (cs.length + 1)) (List.replicate (cs.length + 1) 0)) := hr1; have HK : Hid (Kept (fun _ => False) w w1) := (Kept.refl _ w).grown hg1 (by simp); clear hr1 hg1) | (with_reducible refine atCopy ?_; refine wpList_copy_bytes _ rfl (.tmp 8) (.tmp 9) rfl w.heap.size (cs.length + 1) (cs.length + 1) ao cs.length cap (List.replicate (cs.length + 1) 0) cs I rfl rfl HR.out (HS.out.kept HK.out (fun _ _ _ h => h)) (by simp) ?_))
 intro w2 hr2 hg2 hs2
 have hr3 : Row w2 (.slice (some ⟨w.heap.size, 0, none⟩) (cs.length + 1) (cs.length + 1)) (cs ++ [0]) := by simpa using hr2
 have c1 : w2.cell? ⟨w.heap.size, cs.length, none⟩ = some (.int .u8 0) := by
  rw [Row.cell' hr3 cs.length (by simp)]; simp
 have f1 : w2.frozen? ⟨w.heap.size, cs.length, none⟩ = false := Row.frozen' hr3 _
 have HR2 : Hid (Row w2 (.slice (some ⟨w.heap.size, 0, none⟩) (cs.length + 1) (cs.length + 1)) (cs ++ [0])) := hr3
 have HK2 : Hid (Kept (fun _ => False) w w2) := HK.out.grown hg2 (fun k e => .inr (by simp at e; omega))
 clear hr2 hr3 hg2 hs2 HR HK
 go_wp2_with fail
 go_ret
 refine ⟨w.heap.size, rfl, ?_, HK2.out.setCell _ _ (.inr (Nat.le_refl _)), Nat.le_refl _⟩
 have h := Row.lay HR2.out cs.length 99
 rw [set_at _ _ _ _ _ rfl] at h
 exact h

theorem Ents.ofRow {B : Nat} {w : World} {a : Option Addr} {n c : Nat} {ys : List En} (h : RowC B 34 2 enE w (.slice a n c) ys) (hn : n = ys.length) : Ents w (fun _ => True) a n (fun j => ys.getD j default) := by
 subst hn
 intro j hj
 obtain ⟨g, cap, hv, _, hc⟩ := h.at8 enE_ok j hj
 simp only [Value.slice.injEq] at hv
 have e : ys.getD j default = ys[j] := by rw [List.getD_eq_getElem?_getD, List.getElem?_eq_getElem hj]; rfl
 simp only [e]
 refine ⟨g, 0, hv.1, trivial, ?_, ?_⟩
 ·have := hc 0 (by decide); simpa [enE] using this
 ·have := hc 1 (by decide); simpa [enE] using this

set_option maxRecDepth 100000 in
set_option maxHeartbeats 400000 in
theorem esame_true (w : World) (a b : Option Addr) (n c d : Nat) (E : Nat → En) (I J : Nat → Prop) (ha : Ents w I a n E) (hb : Ents w J b n E) (hn : n ≤ 100000000) :
  Calls Tryz.prog 27 #[.slice a n c, .slice b n d] w fun e w' => e = .returned (.bool true) ∧ Same w w' := by
 have HA : Hid (Ents w I a n E) := ha
 have HB : Hid (Ents w J b n E) := hb
 have hnn : ((n : Int) == (n : Int)) = true := by simp
 clear ha hb
 go_enter Tryz.func27, Tryz.ntmps27
 go_wp2_with fail
 go_loopg [5] n (fun k z wr => ∃ i : Nat, n - i ≤ k ∧ i ≤ n ∧ z = .int .i64 (i : Nat) ∧ Hid (Same w wr))
 case atStart => exact ⟨0, by omega, by omega, rfl, hid (Kept.refl _ _)⟩
 case round =>
  obtain ⟨i, hk, hil, rfl, HK⟩ := hrel
  by_cases hlt : i < n
  ·have hli : decide (i < n) = true := by simp; omega
   obtain ⟨g1, o1, e1, _, c0, c1⟩ := HA.out i hlt
   obtain ⟨g2, o2, e2, _, d0, d1⟩ := HB.out i hlt
   subst e1
   subst e2
   have c0 := HK.out.cell c0 (fun f => f)
   have c1 := HK.out.cell c1 (fun f => f)
   have d0 := HK.out.cell d0 (fun f => f)
   have d1 := HK.out.cell d1 (fun f => f)
   obtain ⟨y, hy⟩ : ∃ y, y = E i := ⟨_, rfl⟩
   rw [← hy] at c0 c1 d0 d1
   have q0 : (y.n.toList == y.n.toList) = true := by simp
   have q1 : (y.d.toList == y.d.toList) = true := by simp
   have hiw : IntKind.i64.wrap ((i : Int) + 1) = ((i + 1 : Nat) : Int) := by rw [IntKind.wrap_i64]; omega
   have i1 : (0 : Int) ≤ (i : Int) := by omega
   have i2 : (i : Int) < (n : Int) := by omega
   clear hy
   go_wp2_with fail
   go_quiet (fail)
   go_wp2_with fail
   go_roundg (gk - 1)
   case measure => omega
   case rel => exact ⟨i + 1, by omega, by omega, by go_num, hid (HK.out.drewN _)⟩
  ·have hli : decide (i < n) = false := by simp; omega
   go_wp2_with fail
   go_ret
   exact ⟨rfl, HK.out⟩

end Go.Proofs.YtljlmfnbeofmmaaGreatDoor

namespace Go.Proofs.YtljlmfnbeofmmaaGreatDoor

theorem bestL_ge {a b : List Nat} {n : Nat} (ha : n ≤ a.length) (hb : n ≤ b.length) : n ≤ (bestL a b).length := by
 unfold bestL
 split <;> assumption

theorem dynB_ge (ts : List TK) : 17 ≤ (dynB ts).length := by
 unfold dynB dynBits headBits
 simp only [List.length_append, List.length_cons, List.length_nil]
 have h1 : ∀ v n, (bitsOf v n).length = n := fun v n => bitsOf_length v n
 rw [h1, h1, h1]
 omega

theorem pdef_three {data bs : List Nat} (h : PDef data bs) (hf : 17 ≤ (fixBits (findM data)).length) : ¬ bs.length < 3 := by
 obtain ⟨x2, x3, rfl, h2, h3⟩ := h
 have g2 := h2.1.len
 have g3 := h3.1.1.len
 have g4 := dynB_ge (findM data)
 have : 3 ≤ (bestL (bestL (storeB data) x2) x3).length := bestL_ge (bestL_ge (by simp [storeB]) (by omega)) (by omega)
 omega

theorem fix_one : 17 ≤ (fixBits (findM [111, 110, 101])).length := by decide +kernel
theorem fix_two : 17 ≤ (fixBits (findM [116, 119, 111])).length := by decide +kernel

def one8 : ByteArray := ⟨#[111, 110, 101]⟩
def two8 : ByteArray := ⟨#[116, 119, 111]⟩
def a8 : ByteArray := ⟨#[97]⟩
def bc8 : ByteArray := ⟨#[98, 47, 99]⟩
def nil8b : ByteArray := ⟨#[]⟩

def exE (j : Nat) : En := if j = 0 then ⟨a8, one8⟩ else ⟨bc8, two8⟩
def twE (_ : Nat) : En := ⟨a8, nil8b⟩

theorem exE_chk : chkE exE 2 = 0 := by decide +kernel
theorem twE_chk : chkE twE 2 = 80 := by decide +kernel

theorem three_lab {y : En} {bs : List Nat} (h : PDef (sb y.d) bs) (hd : y.d.size = 3) (hf : 17 ≤ (fixBits (findM (sb y.d))).length) : (labZ y bs).way = 0 ∧ unp8 ⟨labZ y bs, bodZ y bs⟩ = .ok (sb y.d) := by
 have h3 := pdef_three h hf
 have e1 : (labZ y bs).way = 0 := by simp only [labZ]; rw [if_neg (by omega)]
 have e2 : bodZ y bs = sb y.d := by simp only [bodZ]; rw [if_neg (by omega)]
 refine ⟨e1, ?_⟩
 unfold unp8
 rw [if_neg (by rw [e1]; decide)]
 simp only
 rw [e2, show (labZ y bs).sum = more 0 (sb y.d) from rfl, if_pos rfl]

theorem ex_file {L : List It} (h : ItsOf exE 2 L) : (∀ y ∈ L, y.lab.way = 0) ∧ opf8 (filB L) = .ok L ∧ rd8 (filB L) = .ok [(sb a8, sb one8), (sb bc8, sb two8)] := by
 obtain ⟨hl, hj⟩ := h
 match L, hl with
 | [x0, x1], _ =>
  obtain ⟨b0, p0, e0⟩ := hj 0 x0 rfl
  obtain ⟨b1, p1, e1⟩ := hj 1 x1 rfl
  have t0 := three_lab (y := exE 0) p0 rfl fix_one
  have t1 := three_lab (y := exE 1) p1 rfl fix_two
  rw [← e0] at t0
  rw [← e1] at t1
  have hop := its_open (E := exE) (len := 2) (L := [x0, x1]) ⟨rfl, hj⟩ exE_chk
  have ew0 : x0.lab.way = 0 := by have := t0.1; rw [e0]; exact this
  have ew1 : x1.lab.way = 0 := by have := t1.1; rw [e1]; exact this
  refine ⟨fun y hy => ?_, hop, ?_⟩
  ·simp only [List.mem_cons, List.not_mem_nil, or_false] at hy
   rcases hy with rfl | rfl
   ·exact ew0
   ·exact ew1
  ·unfold rd8
   rw [hop]
   simp only [all8, t0.2, t1.2]
   have n0 : x0.lab.name = sb a8 := by rw [e0]; rfl
   have n1 : x1.lab.name = sb bc8 := by rw [e1]; rfl
   rw [n0, n1]
   rfl

theorem ex_nil {E : Nat → En} {L : List It} (h : ItsOf E 0 L) : filB L = endB 0 0 0 := by
 have : L = [] := List.eq_nil_of_length_eq_zero h.1
 subst this
 rfl

theorem ex_bad : opf8 (endB 0 0 0 ++ [0]) = .error 81 := by
 have h1 : (endB 0 0 0 ++ [0]).length = 23 := by decide +kernel
 have h2 : enf8 ((endB 0 0 0 ++ [0]).drop 1) = none := by decide +kernel
 unfold opf8
 rw [h1, if_neg (by decide), if_neg (by decide), end8_none h2]

end Go.Proofs.YtljlmfnbeofmmaaGreatDoor

namespace Go.Proofs.YtljlmfnbeofmmaaGreatDoor
open Go.RowKit

def inE (m : Mk) : List Value := [.string (txt m.name), .int .i64 (m.size : Nat), .int .i64 (m.packed : Nat), .int .u32 (m.sum : Nat), .int .i64 (m.way : Nat)]

theorem inE_ok : EncOk inE 5 := ⟨fun _ => rfl, fun x u hu => by simp [inE] at hu; rcases hu with rfl | rfl | rfl | rfl | rfl <;> rfl, by decide⟩

theorem Tryz.infoInfo : (Tryz.prog.info? 50).map (fun i => (i.zero, i.size, i.bytes)) = some (some (.agg #[.string ⟨#[]⟩, .int .i64 0, .int .i64 0, .int .u32 0, .int .i64 0]), 5, 48) := by kernel_rfl

theorem cellsAt_in (w : World) (m : Mk) : CellsAt (w.alloc (.cells #[.string (txt m.name), .int .i64 (m.size : Nat), .int .i64 (m.packed : Nat), .int .u32 (m.sum : Nat), .int .i64 (m.way : Nat)] 50)) ⟨w.heap.size, 0, none⟩ ([m].flatMap inE) := by
 intro j u hj
 match j, hj with
 | 0, hj => simp [inE] at hj; subst hj; simp [addAt]
 | 1, hj => simp [inE] at hj; subst hj; simp [addAt]
 | 2, hj => simp [inE] at hj; subst hj; simp [addAt]
 | 3, hj => simp [inE] at hj; subst hj; simp [addAt]
 | 4, hj => simp [inE] at hj; subst hj; simp [addAt]
 | j + 5, hj => simp [inE] at hj

def LsA (w w' : World) (o : Except Nat (List It)) (e : Ending) : Prop :=
 (∀ k, o = .error k → e = .returned (.tuple #[.slice none 0 0, .int .i64 (k : Nat)])) ∧ (∀ L, o = .ok L → ∃ a n c, e = .returned (.tuple #[.slice a n c, .int .i64 0]) ∧ RowC w.heap.size 50 5 inE w' (.slice a n c) (L.map (·.lab)) ∧ n = L.length) ∧ Same w w'

structure LiI (w wr : World) (eb : Nat) (L : List It) (i : Nat) (v : Value) : Prop where
 row : RowC w.heap.size 50 5 inE wr v ((L.take i).map (·.lab))
 blk : Blk wr eb #[.int .i64 0] 27
 same : Same w wr

set_option maxRecDepth 100000 in
set_option maxHeartbeats 400000 in
theorem list_any (w : World) (a : Option Addr) (n c : Nat) (bs : List Nat) (hs : Src w (fun k => k < w.heap.size) (.slice a n c) bs) (hL : n = bs.length) (hb : ∀ x ∈ bs, x < 256) (hcap : n ≤ c) (hn : n ≤ 100000000) (hx : Mxl w) :
  Calls Tryz.prog 19 #[.slice a n c] w fun e w' => LsA w w' (opf8 bs) e := by
 have hmf : ∀ (fn : Fn) (first cap : Array Value) (w : World), (Instr.makeFunc fn first cap).run Tryz.prog w = .ok (.func fn first cap) w := fun _ _ _ _ => rfl
 obtain ⟨W1, hW1⟩ : ∃ W, W = w.alloc (.cells #[.int .i64 0] 27) := ⟨_, rfl⟩
 obtain ⟨eb, heb⟩ : ∃ b, b = w.heap.size := ⟨_, rfl⟩
 have HK1 : Hid (Same w W1) := hid (by rw [hW1]; exact (Kept.refl _ w).alloc _)
 have HB1 : Hid (Blk W1 eb #[.int .i64 0] 27) := hid (by rw [hW1, heb]; exact Blk.new w _ _)
 have HO := open_any W1 a n c bs ((hs.kept HK1.out (fun _ _ _ f => f)).mono (fun k hk => Nat.lt_of_lt_of_le hk HK1.out.size)) hL hb hcap hn (hx.kept HK1.out (fun f => f))
 have HEB : Hid (eb = w.heap.size) := heb
 clear hs hL hb hcap hx
 go_enter_defers Tryz.func19, Tryz.ntmps19
 go_wp2_with fail
 rw [← hW1, ← heb]
 clear hW1 heb
 refine HO.mono ?_
 intro e w1 h1
 obtain ⟨hbad, hgood, hk1⟩ := h1
 have HB2 : Hid (Blk w1 eb #[.int .i64 0] 27) := hid (HB1.out.kept hk1 (fun f => f))
 have HK2 : Hid (Same w w1) := hid (Same.trans HK1.out hk1)
 cases ho : opf8 bs with
 | error k =>
  obtain rfl := hbad k ho
  have HE : Hid (opf8 bs = .error k) := ho
  clear hk1 HO hbad hgood ho
  unfold pan8
  go_wp2_with fail
  have c0 : w1.cell? ⟨eb, 0, none⟩ = some (.int .i64 0) := HB2.out.cell 0
  have z0 := HB2.out.frozen 0
  have d0 : (w1.setCell ⟨eb, 0, none⟩ (.int .i64 (k : Nat))).cell? ⟨eb, 0, none⟩ = some (.int .i64 (k : Nat)) := by have := (HB2.out.set 0 (.int .i64 (k : Nat))).cell 0; simpa using this
  have HKF : Hid (Same w (w1.setCell ⟨eb, 0, none⟩ (.int .i64 (k : Nat)))) := hid (HK2.out.setCell _ _ (.inr (by have h9 := HEB.out; show w.heap.size ≤ eb; omega)))
  refine leaves_cons (f := 49) (args := #[.pointer (some ⟨eb, 0, none⟩)]) (by simp) (by simp [go_sem]) ?_
  refine (lcatch_panicking eb 0 k w1 c0 z0).mono ?_
  rintro e u' w'' ⟨rfl, rfl, rfl⟩
  simp [Leaves, settle, results, Tryz.results19, go_sem, d0]
  exact ⟨fun k' e => by rw [HE.out] at e; simp only [Except.error.injEq] at e; subst e; rfl, fun D e => (by rw [HE.out] at e; cases e), HKF.out⟩
 | ok L =>
  obtain ⟨a1, n1, c1, xs, rfl, hr1, hi1, hn1, hc1, h64⟩ := hgood L ho
  have HE : Hid (opf8 bs = .ok L) := ho
  have HR1 : Hid (RowC W1.heap.size 78 6 itE w1 (.slice a1 n1 c1) xs) := hr1
  have HI1 : Hid (Its W1.heap.size w1 xs L) := hi1
  have HN : Hid (n1 = xs.length ∧ n1 = L.length) := hid ⟨hn1, by rw [hn1]; exact hi1.1⟩
  clear hk1 HO hbad hgood ho hr1 hi1 hn1 hc1
  go_wp2_with fail
  go_loopg [2, 10] n1 (fun qq z2 z10 wr => ∃ (i : Nat), z10 = .int .i64 (i : Nat) ∧ i ≤ n1 ∧ n1 - i ≤ qq ∧ Hid (LiI w1 wr eb L i z2))
  case atStart => exact ⟨0, rfl, by omega, by omega, hid ⟨RowC.nil, HB2.out, Kept.refl _ _⟩⟩
  case round =>
   obtain ⟨i, rfl, hi1, hiq, HI⟩ := hrel
   obtain ⟨v0, hv0⟩ : ∃ v, v = u2 := ⟨_, rfl⟩
   rw [← hv0] at HI
   rw [← hv0]
   clear hv0
   obtain ⟨a0, c0, hv0, _⟩ := HI.out.row.shape
   rw [List.length_map, List.length_take, Nat.min_eq_left (by have := HN.out; omega)] at hv0
   subst hv0
   by_cases hi : i < n1
   ·have hli : decide (i < n1) = true := by simp; omega
    have hx := List.getElem?_eq_getElem (l := xs) (i := i) (by have := HN.out; omega)
    have hy := List.getElem?_eq_getElem (l := L) (i := i) (by have := HN.out; omega)
    obtain ⟨x, hxx⟩ : ∃ x, x = xs[i]'(by have := HN.out; omega) := ⟨_, rfl⟩
    obtain ⟨y, hyy⟩ : ∃ y, y = L[i]'(by have := HN.out; omega) := ⟨_, rfl⟩
    rw [← hxx] at hx
    rw [← hyy] at hy
    obtain ⟨g, cap, hv, _, hc⟩ := HR1.out.at8 itE_ok i (by have := HN.out; omega)
    rw [← hxx] at hc
    simp only [Value.slice.injEq] at hv
    have hv1 := hv.1
    clear hv
    subst hv1
    have hcx : ∀ k u, k < 6 → (itE x)[k]? = some u → wr.cell? ⟨g, i * 6 + k, none⟩ = some u := fun k u h1 h2 => HI.out.same.cell ((hc k h1).trans h2) (fun f => f)
    have k0 := hcx 0 _ (by decide) rfl
    have k1 := hcx 1 _ (by decide) rfl
    have k2 := hcx 2 _ (by decide) rfl
    have k3 := hcx 3 _ (by decide) rfl
    have k4 := hcx 4 _ (by decide) rfl
    have k5 := hcx 5 _ (by decide) rfl
    rw [Nat.add_zero] at k0
    have hiw : IntKind.i64.wrap ((i : Int) + 1) = ((i + 1 : Nat) : Int) := by rw [IntKind.wrap_i64]; omega
    have i1 : (0 : Int) ≤ (i : Int) := by omega
    have i2 : (i : Int) < (n1 : Int) := by omega
    have HAT := HI1.out.2 i x y hx hy
    have HXL : Hid (x.m = y.lab ∧ L[i]? = some y) := hid ⟨HAT.lab, hy⟩
    obtain ⟨wA, hwA⟩ : ∃ W, W = wr.alloc (.cells (itZ x.m (.slice x.a x.n x.c)) 78) := ⟨_, rfl⟩
    obtain ⟨xb, hxb⟩ : ∃ b, b = wr.heap.size := ⟨_, rfl⟩
    have HKA : Hid (Same wr wA) := hid (by rw [hwA]; exact (Kept.refl _ wr).alloc _)
    have HXA : Hid (Blk wA xb (itZ x.m (.slice x.a x.n x.c)) 78) := hid (by rw [hwA, hxb]; exact Blk.new wr _ _)
    have HC := info_any wA x.m (.slice x.a x.n x.c) (by rw [HAT.lab]; exact HAT.ok)
    clear hxx hyy hx hy hc hcx HAT
    unfold itZ at hwA HC HXA
    have q0 : wA.cell? ⟨xb, 0, none⟩ = some (.int .u16 (x.m.way : Nat)) := HXA.out.cell 0
    have q1 : wA.cell? ⟨xb, 1, none⟩ = some (.int .u32 (x.m.sum : Nat)) := HXA.out.cell 1
    have q2 : wA.cell? ⟨xb, 2, none⟩ = some (.int .u32 (x.m.packed : Nat)) := HXA.out.cell 2
    have q3 : wA.cell? ⟨xb, 3, none⟩ = some (.int .u32 (x.m.size : Nat)) := HXA.out.cell 3
    have q4 : wA.cell? ⟨xb, 4, none⟩ = some (.string (txt x.m.name)) := HXA.out.cell 4
    have q5 : wA.cell? ⟨xb, 5, none⟩ = some (.slice x.a x.n x.c) := HXA.out.cell 5
    go_wp2_with fail
    rw [← hwA, ← hxb]
    clear hwA hxb
    refine HC.mono ?_
    rintro e w4 ⟨rfl, hk4⟩
    have HK4 : Hid (Same wr w4) := hid (Same.trans HKA.out hk4)
    have HR4 : Hid (RowC w1.heap.size 50 5 inE w4 (.slice a0 i c0) ((L.take i).map (·.lab))) := hid (HI.out.row.kept HK4.out (fun _ _ f => f))
    clear hk4 HC q0 q1 q2 q3 q4 q5 k0 k1 k2 k3 k4 k5
    go_wp2_with (at_builtin; refine wpList_append_c _ inE 5 inE_ok (by decide) w1.heap.size 38 50 (.agg #[.string ⟨#[]⟩, .int .i64 0, .int .i64 0, .int .u32 0, .int .i64 0]) 48 Tryz.underlying38 Tryz.infoInfo rfl (by decide) rfl (.tmp 14) (.tmp 17) rfl (.slice a0 i c0) ((L.take i).map (·.lab)) rfl (HR4.out.kept (show Same _ _ from (Kept.refl _ _).alloc _) (fun _ _ f => f)) ⟨w4.heap.size, 0, none⟩ 1 1 [x.m] rfl rfl (cellsAt_in w4 x.m) (by rw [List.length_map, List.length_take]; simp; omega) (by have := HI.out.same.size; have := HK4.out.size; simp; omega) ?_; intro v8 w8 hr8 hg8)
    obtain ⟨wB, hwB⟩ : ∃ W, W = w4.alloc (.cells #[.string (txt x.m.name), .int .i64 (x.m.size : Nat), .int .i64 (x.m.packed : Nat), .int .u32 (x.m.sum : Nat), .int .i64 (x.m.way : Nat)] 50) := ⟨_, rfl⟩
    have hg8' : wB.grownBy w8 (Value.slice a0 i c0).ownBlock := by rw [hwB]; exact hg8
    have hkB : Same w4 wB := by rw [hwB]; exact (Kept.refl _ w4).alloc _
    have hk8 : Kept (fun k => (Value.slice a0 i c0).ownBlock = some k) wB w8 := (Kept.refl _ wB).grown hg8' (fun k e => .inl e)
    have HF : Hid (LiI w1 w8 eb L (i + 1) v8) := hid (by
     refine ⟨?_, ?_, ((Same.trans HI.out.same (Same.trans HK4.out hkB)).then hk8 (fun k hk e => by have := HR4.out.ge e; omega))⟩
     ·rw [List.take_add_one, HXL.out.2, List.map_append]
      show RowC _ _ _ _ _ _ ((L.take i).map (·.lab) ++ [y.lab])
      rw [← HXL.out.1]
      exact hr8
     ·have hb4 := (HI.out.blk.kept HK4.out (fun f => f)).kept hkB (fun f => f)
      exact hb4.kept hk8 (fun e => (HR4.out.kept hkB (fun _ _ f => f)).off hb4 (by decide) e))
    clear hr8 hg8 hwB hg8' hkB hk8
    go_wp2_with fail
    go_roundg (gk - 1)
    case measure => omega
    case rel => exact ⟨i + 1, by go_num, by omega, by omega, HF⟩
   ·have hli : decide (i < n1) = false := by simp; omega
    obtain rfl : i = n1 := by omega
    have HR2 : Hid (RowC w.heap.size 50 5 inE wr (.slice a0 i c0) (L.map (·.lab))) := hid (by have h9 := HI.out.row; rw [List.take_of_length_le (by have := HN.out; omega)] at h9; exact h9.base HK2.out.size)
    have HB3 : Hid (Blk wr eb #[.int .i64 0] 27) := hid HI.out.blk
    have ce0 : wr.cell? ⟨eb, 0, none⟩ = some (.int .i64 0) := HB3.out.cell 0
    have z0 := HB3.out.frozen 0
    go_wp2_with fail
    obtain ⟨w3, hw3⟩ : ∃ W, W = wr.setCell ⟨eb, 0, none⟩ (.int .i64 0) := ⟨_, rfl⟩
    have hb3 : Blk w3 eb #[.int .i64 0] 27 := by rw [hw3]; have := HB3.out.set 0 (.int .i64 0); simpa using this
    have HKF : Hid (Same w (w3.setCell ⟨eb, 0, none⟩ (.int .i64 0))) := hid (by rw [hw3]; exact ((Same.trans HK2.out HI.out.same).setCell _ _ (.inr (by have h9 := HEB.out; show w.heap.size ≤ eb; omega))).setCell _ _ (.inr (by have h9 := HEB.out; show w.heap.size ≤ eb; omega)))
    have hks : Kept (· = eb) wr (w3.setCell ⟨eb, 0, none⟩ (.int .i64 0)) := by rw [hw3]; exact ((Kept.refl (· = eb) wr).setCell _ _ (.inl rfl)).setCell _ _ (.inl rfl)
    have HRF : Hid (RowC w.heap.size 50 5 inE (w3.setCell ⟨eb, 0, none⟩ (.int .i64 0)) (.slice a0 i c0) (L.map (·.lab))) := hid (HR2.out.kept hks (fun j e f => HR2.out.off HB3.out (by decide) (by rw [e, f])))
    have d0 : (w3.setCell ⟨eb, 0, none⟩ (.int .i64 0)).cell? ⟨eb, 0, none⟩ = some (.int .i64 0) := by have := (hb3.set 0 (.int .i64 0)).cell 0; simpa using this
    rw [← hw3]
    refine leaves_cons (f := 49) (args := #[.pointer (some ⟨eb, 0, none⟩)]) (by simp) (by simp [go_sem]) ?_
    refine (lcatch_idle eb 0 w3 (hb3.cell 0) (hb3.frozen 0)).mono ?_
    rintro e u' w'' ⟨rfl, rfl, rfl⟩
    simp [Leaves, settle, results, Tryz.results19, go_sem, d0]
    exact ⟨fun k' e => (by rw [HE.out] at e; cases e), fun D' e => by rw [HE.out] at e; simp only [Except.ok.injEq] at e; subst e; exact ⟨a0, _, _, rfl, HRF.out, HN.out.2⟩, HKF.out⟩

end Go.Proofs.YtljlmfnbeofmmaaGreatDoor

namespace Go.Proofs.YtljlmfnbeofmmaaGreatDoor
open Go.RowKit

theorem Row.low8 {w : World} {v : Value} {bs : List Nat} (h : Row w v bs) : Src w (fun k => k < w.heap.size) v bs := (Src.ofRow h).mono (fun _ e => (World.ownsRow.lt h _ e).2)

theorem Row.shape8 {w : World} {v : Value} {bs : List Nat} (h : Row w v bs) : ∃ a c, v = .slice a bs.length c ∧ bs.length ≤ c ∧ (bs ≠ [] → ∃ g, a = some ⟨g, 0, none⟩ ∧ ∀ j (hj : j < bs.length), w.cell? ⟨g, j, none⟩ = some (.int .u8 (bs[j] : Nat))) := by
 obtain ⟨ao, cap, e, hc⟩ := Src.ofRow h
 have h2 := h.2
 rcases h2 with ⟨e2, h3⟩ | ⟨g, cap2, cur, e2, _, _, h4, _⟩
 ·refine ⟨none, 0, by rw [e2, h3], by omega, fun hb => absurd (List.eq_nil_of_length_eq_zero h3) hb⟩
 ·refine ⟨some ⟨g, 0, none⟩, cap2, e2, h4, fun hb => ⟨g, rfl, fun j hj => ?_⟩⟩
  obtain ⟨b, o, e5, _, h6⟩ := hc hb
  rw [e2] at e
  simp only [Value.slice.injEq] at e
  rw [e5] at e
  simp only [Option.some.injEq, Addr.mk.injEq, and_true] at e
  obtain ⟨⟨rfl, rfl⟩, _⟩ := e
  have := h6 j hj
  simpa using this

theorem ents_lit (w : World) (x0 x1 x2 x3 : ByteArray) : Ents (w.alloc (.cells #[.string x0, .string x1, .string x2, .string x3] 34)) (fun _ => True) (some ⟨w.heap.size, 0, none⟩) 2 (fun j => if j = 0 then ⟨x0, x1⟩ else ⟨x2, x3⟩) := by
 have hb := Blk.new w #[.string x0, .string x1, .string x2, .string x3] 34
 intro j hj
 refine ⟨w.heap.size, 0, rfl, trivial, ?_⟩
 match j, hj with
 | 0, _ => exact ⟨hb.cell 0, hb.cell 1⟩
 | 1, _ => exact ⟨hb.cell 2, hb.cell 3⟩

theorem leOf_byte (v n : Nat) : ∀ b ∈ leOf v n, b < 256 := by
 induction n generalizing v with
 | zero => intro b hb; simp [leOf] at hb
 | succ n ih =>
  intro b hb
  rw [leOf] at hb
  rcases List.mem_append.1 hb with hb | hb
  ·exact ih _ b hb
  ·simp only [List.mem_cons, List.not_mem_nil, or_false] at hb
   omega

theorem labB_byte (m : Mk) : ∀ b ∈ labB m, b < 256 := by
 intro b hb
 unfold labB at hb
 simp only [List.mem_append] at hb
 rcases hb with h | h | h | h | h | h | h | h | h | h <;> exact leOf_byte _ _ b h

theorem filB_byte {L : List It} (h : ∀ x ∈ L, (∀ b ∈ x.lab.name, b < 256) ∧ ∀ b ∈ x.bytes, b < 256) : ∀ b ∈ filB L, b < 256 := by
 have hp : ∀ b ∈ piesB L, b < 256 := by
  intro b hb
  obtain ⟨x, hx, hb⟩ := List.mem_flatMap.1 hb
  unfold pieB hedB at hb
  simp only [List.mem_append] at hb
  rcases hb with (h1 | h1 | h1) | h1
  ·exact leOf_byte _ _ b h1
  ·exact labB_byte _ b h1
  ·exact (h x hx).1 b h1
  ·exact (h x hx).2 b h1
 have hr : ∀ (at' : Nat) (L : List It), (∀ x ∈ L, (∀ b ∈ x.lab.name, b < 256) ∧ ∀ b ∈ x.bytes, b < 256) → ∀ b ∈ recsB at' L, b < 256 := by
  intro at' L
  induction L generalizing at' with
  | nil => intro _ b hb; simp [recsB] at hb
  | cons x r ih =>
   intro h b hb
   rw [recsB] at hb
   rcases List.mem_append.1 hb with hb | hb
   ·unfold recB at hb
    simp only [List.mem_append] at hb
    rcases hb with h1 | h1 | h1 | h1 | h1 | h1 | h1 | h1 | h1
    ·exact leOf_byte _ _ b h1
    ·exact leOf_byte _ _ b h1
    ·exact labB_byte _ b h1
    ·exact leOf_byte _ _ b h1
    ·exact leOf_byte _ _ b h1
    ·exact leOf_byte _ _ b h1
    ·exact leOf_byte _ _ b h1
    ·exact leOf_byte _ _ b h1
    ·exact (h x (by simp)).1 b h1
   ·exact ih _ (fun y hy => h y (by simp [hy])) b hb
 intro b hb
 unfold filB at hb
 simp only [List.mem_append] at hb
 rcases hb with h1 | h1 | h1
 ·exact hp b h1
 ·exact hr 0 L h b h1
 ·unfold endB at h1
  simp only [List.mem_append] at h1
  rcases h1 with h | h | h | h | h | h | h | h <;> exact leOf_byte _ _ b h

theorem pdef_byte {data bs : List Nat} (h : PDef data bs) (hb : ∀ b ∈ data, b < 256) (hl : data.length ≤ 16384) : ∀ b ∈ bs, b < 256 := by
 obtain ⟨x2, x3, rfl, h2, h3⟩ := h
 have hs : ∀ b ∈ storeB data, b < 256 := by
  intro b hx
  unfold storeB at hx
  simp only [List.mem_append, List.mem_cons, List.not_mem_nil, or_false] at hx
  rcases hx with (rfl | rfl | rfl | rfl | rfl) | h
  ·omega
  ·omega
  ·omega
  ·omega
  ·omega
  ·exact hb b h
 have hbest : ∀ a c : List Nat, (∀ b ∈ a, b < 256) → (∀ b ∈ c, b < 256) → ∀ b ∈ bestL a c, b < 256 := by
  intro a c ha hc b hx
  unfold bestL at hx
  split at hx
  ·exact hc b hx
  ·exact ha b hx
 exact hbest _ _ (hbest _ _ hs h2.2) h3.1.2

theorem its_byte {E : Nat → En} {len : Nat} {L : List It} (h : ItsOf E len L) (hc : chkE E len = 0) : ∀ b ∈ filB L, b < 256 := by
 refine filB_byte (fun x hx => ?_)
 obtain ⟨j, hj, rfl⟩ := List.getElem_of_mem hx
 obtain ⟨bs, hp, e⟩ := h.2 j L[j] (List.getElem?_eq_getElem hj)
 have h9 := (chkE_ok hc).2 j (by rw [← h.1]; exact hj)
 rw [e]
 refine ⟨fun b hb => sb_lt _ b hb, fun b hb => ?_⟩
 have hb : b ∈ bodZ (E j) bs := hb
 unfold bodZ at hb
 split at hb
 ·exact pdef_byte hp (sb_lt _) (by rw [sb_size]; omega) b hb
 ·exact sb_lt _ b hb

set_option maxRecDepth 100000 in
set_option maxHeartbeats 400000 in
theorem zawake_any (w : World) (hx : Mxl w) (hT : Tab w) :
  Calls Tryz.prog 9 #[] w fun e w' => e = .returned (.bool true) ∧ Same w w' := by
 have HX : Hid (Mxl w) := hx
 have HT : Hid (Tab w) := hT
 have H1 := zwrite_good w none 0 0 exE (fun j hj => by omega) (Nat.le_refl _) hx hT rfl
 clear hx hT
 go_enter Tryz.func9, Tryz.ntmps9
 go_wp2_with fail
 refine H1.mono ?_
 rintro e w1 ⟨v1, L1, rfl, hf1, hi1⟩
 rw [ex_nil hi1] at hf1
 obtain ⟨a1, c1, hv1, _, hbz⟩ := hf1.row.shape8
 obtain ⟨g1, ha1, hb1⟩ := hbz (by decide +kernel)
 clear hbz
 subst ha1
 have hl1 : (endB 0 0 0).length = 22 := rfl
 rw [hl1] at hv1
 subst hv1
 have HR1 : Hid (Row w1 (.slice (some ⟨g1, 0, none⟩) 22 c1) (endB 0 0 0)) := hid hf1.row
 have HC1 : Hid (w1.cell? ⟨g1, 0, none⟩ = some (.int .u8 80)) := hid (hb1 0 (by decide +kernel))
 have HK1 : Hid (Same w w1) := hid hf1.kept
 obtain ⟨W2, hW2⟩ : ∃ W, W = w1.alloc (.cells #[.string ⟨#[97]⟩, .string ⟨#[111, 110, 101]⟩, .string ⟨#[98, 47, 99]⟩, .string ⟨#[116, 119, 111]⟩] 34) := ⟨_, rfl⟩
 have HKW2 : Hid (Same w1 W2) := hid (by rw [hW2]; exact (Kept.refl _ w1).alloc _)
 have H2 := zwrite_good W2 (some ⟨w1.heap.size, 0, none⟩) 2 2 exE (by rw [hW2]; exact ents_lit w1 _ _ _ _) (Nat.le_refl _) (HX.out.kept (Same.trans HK1.out HKW2.out) (fun f => f)) (HT.out.kept (Same.trans HK1.out HKW2.out) (fun f => f)) exE_chk
 clear H1 hf1 hi1 hb1 hl1
 go_wp2_with fail
 rw [← hW2]
 clear hW2
 refine H2.mono ?_
 rintro e w3 ⟨v3, L3, rfl, hf3, hi3⟩
 obtain ⟨hz3, ho3, hd3⟩ := ex_file hi3
 have hby3 := its_byte hi3 exE_chk
 have hsm3 := its_small hi3 exE_chk
 obtain ⟨F, hF⟩ : ∃ F, F = filB L3 := ⟨_, rfl⟩
 rw [← hF] at hf3 ho3 hd3 hby3 hsm3
 obtain ⟨a3, c3, hv3, hcap3, _⟩ := hf3.row.shape8
 obtain ⟨n3, hn3⟩ : ∃ n, n = F.length := ⟨_, rfl⟩
 rw [← hn3] at hv3 hcap3 hsm3
 subst hv3
 have HK3 : Hid (Same w1 w3) := hid (Same.trans HKW2.out hf3.kept)
 have H3 := read_any w3 a3 n3 c3 F hf3.row.low8 hn3 hby3 hcap3 (by omega) (HX.out.kept (Same.trans HK1.out HK3.out) (fun f => f)) (fun L hL => UnpOk.zero w3 L (by rw [ho3] at hL; simp only [Except.ok.injEq] at hL; rw [← hL]; exact hz3))
 rw [hd3] at H3
 clear H2 hf3 hi3 hz3 ho3 hd3 hby3 hcap3 hF hn3
 go_wp2_with fail
 refine H3.mono ?_
 intro e w4 h4
 obtain ⟨a4, n4, c4, rfl, hr4, hn4⟩ := h4.2.1 _ rfl
 have hn4 : n4 = 2 := hn4
 subst hn4
 have HK4 : Hid (Same w1 w4) := hid (Same.trans HK3.out h4.2.2)
 have HR4 : Hid (RowC w3.heap.size 34 2 enE w4 (.slice a4 2 c4) ([(sb a8, sb one8), (sb bc8, sb two8)].map enOf)) := hr4
 obtain ⟨W5, hW5⟩ : ∃ W, W = w4.alloc (.cells #[.string ⟨#[97]⟩, .string ⟨#[]⟩, .string ⟨#[97]⟩, .string ⟨#[]⟩] 34) := ⟨_, rfl⟩
 have HKW5 : Hid (Same w1 W5) := hid (Same.trans HK4.out (by rw [hW5]; exact (Kept.refl _ w4).alloc _))
 have HKW45 : Hid (Same w4 W5) := hid (by rw [hW5]; exact (Kept.refl _ w4).alloc _)
 have hE5 : (fun j => if j = 0 then (⟨⟨#[97]⟩, ⟨#[]⟩⟩ : En) else ⟨⟨#[97]⟩, ⟨#[]⟩⟩) = twE := by funext j; unfold twE a8 nil8b; split <;> rfl
 have H5 := zwrite_bad W5 (some ⟨w4.heap.size, 0, none⟩) 2 2 twE (by rw [hW5, ← hE5]; exact ents_lit w4 _ _ _ _) (by decide) (Nat.le_refl _) (HX.out.kept (Same.trans HK1.out HKW5.out) (fun f => f)) (by rw [twE_chk]; decide)
 rw [twE_chk] at H5
 clear H3 h4 hr4 hE5
 go_wp2_with fail
 rw [← hW5]
 clear hW5
 refine H5.mono ?_
 rintro e w6 ⟨rfl, hk6⟩
 have HK6 : Hid (Same w1 w6) := hid (Same.trans HKW5.out hk6)
 have HK46 : Hid (Same w4 w6) := hid (Same.trans HKW45.out hk6)
 have H6 := zlent_any w6 _ _ (endB 0 0 0) (Src.ofRow (HR1.out.kept HK6.out (fun _ _ f => f))) (by decide +kernel)
 rw [show (endB 0 0 0).length = 22 from rfl] at H6
 clear H5 hk6
 go_wp2_with fail
 refine H6.mono ?_
 rintro e w7 ⟨g7, rfl, hr7, hk7, hn7⟩
 have HK7 : Hid (Same w6 w7) := hk7
 have HR7 : Hid (Row w7 (.slice (some ⟨g7, 0, none⟩) 22 23) (endB 0 0 0)) := hid (Row.cut hr7)
 have HN7 : Hid (w6.heap.size ≤ g7) := hn7
 clear H6 hr7 hk7 hn7
 go_wp2_with (at_builtin; refine wpList_append_any _ rfl (.tmp 36) (.tmp 37) rfl _ (endB 0 0 0) rfl (HR7.out.kept (show Same _ _ from (Kept.refl _ _).alloc _) (fun _ _ f => f)) _ _ [0] rfl (fun n c e => by cases e) (src_lit w7 [0] 1 rfl) (by decide +kernel) ?_; intro v8 w8 hr8 hg8 ho8; have HR8 : Hid (Row w8 v8 (endB 0 0 0 ++ [0])) := hr8; have HK8 : Hid (Same w6 w8) := hid ((Same.trans HK7.out (show Same w7 (w7.alloc (.cells #[.int .u8 0] 5)) from (Kept.refl _ _).alloc _)).then ((Kept.refl (fun k => (Value.slice (some ⟨g7, 0, none⟩) 22 23).ownBlock = some k) _).grown hg8 (fun k e => .inl e)) (fun x hx e => by have := HN7.out; simp only [Value.ownBlock, Option.some.injEq] at e; omega)); obtain ⟨a8', c8, hv8, hcap8, _⟩ := hr8.shape8; have hv8 : v8 = .slice a8' 23 c8 := hv8; have hcap8 : 23 ≤ c8 := hcap8; subst hv8; clear hr8 hg8 ho8)
 have H9 := list_any w8 a8' 23 c8 (endB 0 0 0 ++ [0]) HR8.out.low8 rfl (by decide +kernel) hcap8 (by decide) (HX.out.kept (Same.trans HK1.out (Same.trans HK6.out HK8.out)) (fun f => f))
 rw [ex_bad] at H9
 refine H9.mono ?_
 intro e w9 h9
 obtain rfl := h9.1 81 rfl
 have HK9 : Hid (Same w6 w9) := hid (Same.trans HK8.out h9.2.2)
 clear H9 h9 hcap8
 have b0 : w9.cell? ⟨g1, 0, none⟩ = some (.int .u8 80) := (Same.trans HK6.out HK9.out).cell HC1.out (fun f => f)
 obtain ⟨W10, hW10⟩ : ∃ W, W = w9.alloc (.cells #[.string ⟨#[97]⟩, .string ⟨#[111, 110, 101]⟩, .string ⟨#[98, 47, 99]⟩, .string ⟨#[116, 119, 111]⟩] 34) := ⟨_, rfl⟩
 have HKW10 : Hid (Same w9 W10) := hid (by rw [hW10]; exact (Kept.refl _ w9).alloc _)
 have hrow10 := HR4.out.kept (Same.trans HK46.out (Same.trans HK9.out HKW10.out)) (fun _ _ f => f)
 have hE10 : ∀ j, j < 2 → (([(sb a8, sb one8), (sb bc8, sb two8)].map enOf).getD j default) = exE j := by
  intro j hj
  match j, hj with
  | 0, _ => show enOf (sb a8, sb one8) = _; unfold enOf; simp only [txt_sb]; rfl
  | 1, _ => show enOf (sb bc8, sb two8) = _; unfold enOf; simp only [txt_sb]; rfl
 have hen10 : Ents W10 (fun _ => True) a4 2 exE := by
  intro j hj
  obtain ⟨b, o, h1, h2, h3, h4⟩ := Ents.ofRow hrow10 rfl j hj
  exact ⟨b, o, h1, h2, by rw [← hE10 j hj]; exact h3, by rw [← hE10 j hj]; exact h4⟩
 have H10 := esame_true W10 a4 (some ⟨w9.heap.size, 0, none⟩) 2 c4 2 exE _ _ hen10 (by rw [hW10]; exact ents_lit w9 _ _ _ _) (by decide)
 clear hrow10 hE10 hen10
 go_wp2_with fail
 rw [← hW10]
 clear hW10
 refine H10.mono ?_
 rintro e w11 ⟨rfl, hk11⟩
 have HK11 : Hid (Same w6 w11) := hid (Same.trans HK9.out (Same.trans HKW10.out hk11))
 have H11 := name_any w11 ⟨#[97, 47, 98, 46, 116, 120, 116]⟩ (HX.out.kept (Same.trans HK1.out (Same.trans HK6.out HK11.out)) (fun f => f))
 rw [show nam8 (sb ⟨#[97, 47, 98, 46, 116, 120, 116]⟩) = true by decide +kernel] at H11
 clear H10 hk11
 go_wp2_with fail
 refine H11.mono ?_
 rintro e w12 ⟨rfl, hk12⟩
 have HK12 : Hid (Same w6 w12) := hid (Same.trans HK11.out hk12)
 have H12 := name_any w12 ⟨#[97, 47, 47, 98]⟩ (HX.out.kept (Same.trans HK1.out (Same.trans HK6.out HK12.out)) (fun f => f))
 rw [show nam8 (sb ⟨#[97, 47, 47, 98]⟩) = false by decide +kernel] at H12
 clear H11 hk12
 go_wp2_with fail
 refine H12.mono ?_
 rintro e w13 ⟨rfl, hk13⟩
 have HK13 : Hid (Same w w13) := hid (Same.trans HK1.out (Same.trans HK6.out (Same.trans HK12.out hk13)))
 clear H12 hk13
 go_wp2_with fail
 go_ret
 exact ⟨rfl, HK13.out⟩

end Go.Proofs.YtljlmfnbeofmmaaGreatDoor

namespace Go.Proofs.YtljlmfnbeofmmaaGreatDoor
open Go.RowKit

def LgA (E : Nat → En) (len : Nat) (b : Bool) : Prop := b = false → len ≤ 16777216 ∧ ∀ j, j < len → (E j).n.size ≤ 16777216 ∧ (E j).d.size ≤ 16777216

set_option maxRecDepth 100000 in
set_option maxHeartbeats 400000 in
theorem zlarge_any (w : World) (a : Option Addr) (len cap : Nat) (E : Nat → En) (hs : Ents w (fun _ => True) a len E) (hn : len ≤ reachBytes) (hz : ∀ j, j < len → (E j).n.size ≤ reachBytes ∧ (E j).d.size ≤ reachBytes) :
  Calls Tryz.prog 12 #[.slice a len cap] w fun e w' => (∃ b, e = .returned (.bool b) ∧ LgA E len b) ∧ Same w w' := by
 have HS : Hid (Ents w (fun _ => True) a len E) := hs
 have HZ : Hid (∀ j, j < len → (E j).n.size ≤ 140737488351232 ∧ (E j).d.size ≤ 140737488351232) := hz
 have hn2 : len ≤ 140737488351232 := hn
 clear hs hz hn
 go_enter Tryz.func12, Tryz.ntmps12
 go_wp2_with fail
 go_loopg [3, 4] len (fun k z3 z4 wr => ∃ i n : Nat, len - i ≤ k ∧ i ≤ len ∧ z3 = .int .i64 (n : Nat) ∧ z4 = .int .i64 (i : Nat) ∧ n ≤ 422212465065984 ∧ Hid (len ≤ n ∧ ∀ j, j < i → (E j).n.size ≤ n ∧ (E j).d.size ≤ n) ∧ Hid (Same w wr))
 case atStart => exact ⟨0, len, by omega, by omega, rfl, rfl, by omega, hid ⟨Nat.le_refl _, fun j hj => by omega⟩, hid (Kept.refl _ _)⟩
 case round =>
  obtain ⟨i, n, hk, hil, rfl, rfl, hnb, HN, HK⟩ := hrel
  by_cases hlt : i < len
  ·have hli : decide (i < len) = true := by simp; omega
   by_cases hm : n ≤ 16777216
   ·have hmb : decide ((n : Int) ≤ 16777216) = true := by simp; omega
    have hmb' : decide (n ≤ 16777216) = true := by simp; omega
    obtain ⟨b, o, ha, _, hc0, hc1⟩ := HS.out i hlt
    subst ha
    have hc0 := HK.out.cell hc0 (fun f => f)
    have hc1 := HK.out.cell hc1 (fun f => f)
    obtain ⟨y, hy⟩ : ∃ y, y = E i := ⟨_, rfl⟩
    have hzy := HZ.out i hlt
    rw [← hy] at hc0 hc1 hzy
    have HY : Hid (y = E i) := hy
    have hiw : IntKind.i64.wrap ((i : Int) + 1) = ((i + 1 : Nat) : Int) := by rw [IntKind.wrap_i64]; omega
    obtain ⟨s0, hs0⟩ : ∃ s, s = y.n.size := ⟨_, rfl⟩
    obtain ⟨s1, hs1⟩ : ∃ s, s = y.d.size := ⟨_, rfl⟩
    obtain ⟨n1, hn1⟩ : ∃ m, m = n + s0 := ⟨_, rfl⟩
    obtain ⟨n2, hn2'⟩ : ∃ m, m = n1 + s1 := ⟨_, rfl⟩
    have g0 : (y.n.size : Int) = (s0 : Int) := by rw [hs0]
    have g1 : (y.d.size : Int) = (s1 : Int) := by rw [hs1]
    rw [← hs0, ← hs1] at hzy
    have q1 : (n : Int) + (s0 : Int) = (n1 : Int) := by omega
    have q1w : IntKind.i64.wrap (n1 : Int) = (n1 : Int) := by rw [IntKind.wrap_i64]; omega
    have q2 : (n1 : Int) + (s1 : Int) = (n2 : Int) := by omega
    have q2w : IntKind.i64.wrap (n2 : Int) = (n2 : Int) := by rw [IntKind.wrap_i64]; omega
    have i1 : (0 : Int) ≤ (i : Int) := by omega
    have i2 : (i : Int) < (len : Int) := by omega
    have hb2 : n2 ≤ 422212465065984 := by omega
    have HNN : Hid (n ≤ n2 ∧ y.n.size ≤ n2 ∧ y.d.size ≤ n2) := hid (by omega)
    clear hy hs0 hs1 hn1 hn2' hzy hm
    go_wp2_with fail
    go_quiet (fail)
    go_wp2_with fail
    go_roundg (gk - 1)
    case measure => omega
    case rel =>
     refine ⟨i + 1, n2, by omega, by omega, rfl, by go_num, hb2, hid ⟨by have := HN.out.1; have := HNN.out.1; omega, fun j hj => ?_⟩, hid (HK.out.drewN _)⟩
     by_cases e : j = i
     ·rw [e, ← HY.out]; exact HNN.out.2
     ·have h9 := HN.out.2 j (by omega)
      have := HNN.out.1
      omega
   ·have hmb : decide ((n : Int) ≤ 16777216) = false := by simp; omega
    have hmb' : decide (n ≤ 16777216) = false := by simp; omega
    have hmc : decide ((16777216 : Int) < (n : Int)) = true := by simp; omega
    have hmc' : decide (16777216 < n) = true := by simp; omega
    clear hm
    go_wp2_with fail
    go_ret
    exact ⟨⟨_, rfl, fun e => by simp at e⟩, HK.out⟩
  ·have hli : decide (i < len) = false := by simp; omega
   have HIL : Hid (i = len) := hid (by omega)
   obtain ⟨B, hB⟩ : ∃ B, B = decide ((16777216 : Int) < (n : Int)) := ⟨_, rfl⟩
   have hB' := hB.symm
   have HB : Hid (B = false → n ≤ 16777216) := hid (fun e => by rw [e] at hB; simp at hB; omega)
   have HNB : Hid (len ≤ n ∧ ∀ j, j < len → (E j).n.size ≤ n ∧ (E j).d.size ≤ n) := hid ⟨HN.out.1, fun j hj => HN.out.2 j (by have := HIL.out; omega)⟩
   clear hB hlt
   go_wp2_with fail
   go_ret
   refine ⟨⟨_, rfl, fun e => ?_⟩, HK.out⟩
   have h8 : n ≤ 16777216 := by
    first
     | exact HB.out e
     | (simp at e; omega)
   exact ⟨by have := HNB.out.1; omega, fun j hj => by have := HNB.out.2 j hj; omega⟩

end Go.Proofs.YtljlmfnbeofmmaaGreatDoor
