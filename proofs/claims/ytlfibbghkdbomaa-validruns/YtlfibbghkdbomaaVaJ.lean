/-
  Layer 13: Writes.
-/
import Derived.Test.YtlfibbghkdbomaaVaI
namespace Go.Proofs.Ytlfibbghkdbomaa
open Go.RowKit Go.Maps Go.Sort Go.Shelf Go.Lib

/-- Entries by their order. -/
def ltK (a b : Ke) : Prop := kT a < kT b ∨ (kT a = kT b ∧ (kA a < kA b ∨ (kA a = kA b ∧ kE a < kE b)))

theorem cmpK_lt (a b : Ke) : cmpK a b < 0 ↔ ltK a b := by
  unfold cmpK ltK
  by_cases h : compareBytes (kT a) (kT b) = 0
  · rw [if_pos h]
    have h2 := (cmp_zero _ _).1 h
    rw [h2]
    by_cases h3 : compareBytes (kA a) (kA b) = 0
    · rw [if_pos h3, cmp_lt]
      have h4 := (cmp_zero _ _).1 h3
      rw [h4]
      constructor
      · intro e; exact .inr ⟨rfl, .inr ⟨rfl, e⟩⟩
      · rintro (e | ⟨_, e | ⟨_, e⟩⟩)
        · exact absurd e (List.lt_irrefl _)
        · exact absurd e (List.lt_irrefl _)
        · exact e
    · rw [if_neg h3, cmp_lt]
      constructor
      · intro e; exact .inr ⟨rfl, .inl e⟩
      · rintro (e | ⟨_, e | ⟨e, _⟩⟩)
        · exact absurd e (List.lt_irrefl _)
        · exact e
        · exact absurd ((cmp_zero _ _).2 e) h3
  · rw [if_neg h, cmp_lt]
    constructor
    · intro e; exact .inl e
    · rintro (e | e)
      · exact e
      · exact absurd ((cmp_zero _ _).2 e.1) h

theorem ltK_irr (a : Ke) : ¬ ltK a a := fun h => by
  rcases h with h | ⟨_, h | ⟨_, h⟩⟩ <;> exact List.lt_irrefl _ h

theorem ltK_trans {a b c : Ke} (h : ltK a b) (k : ltK b c) : ltK a c := by
  rcases h with h | ⟨h, h'⟩ <;> rcases k with k | ⟨k, k'⟩
  · exact .inl (List.lt_trans h k)
  · exact .inl (by rw [← k]; exact h)
  · exact .inl (by rw [h]; exact k)
  · refine .inr ⟨h.trans k, ?_⟩
    rcases h' with h' | ⟨h', h''⟩ <;> rcases k' with k' | ⟨k', k''⟩
    · exact .inl (List.lt_trans h' k')
    · exact .inl (by rw [← k']; exact h')
    · exact .inl (by rw [h']; exact k')
    · exact .inr ⟨h'.trans k', List.lt_trans h'' k''⟩

theorem ltK_tri (a b : Ke) : ltK a b ∨ a = b ∨ ltK b a := by
  rcases list_tri (kT a) (kT b) with h | h | h
  · exact .inl (.inl h)
  · rcases list_tri (kA a) (kA b) with k | k | k
    · exact .inl (.inr ⟨h, .inl k⟩)
    · rcases list_tri (kE a) (kE b) with m | m | m
      · exact .inl (.inr ⟨h, .inr ⟨k, m⟩⟩)
      · exact .inr (.inl (Prod.ext (Bx.ext' (bytes_inj h) (bytes_inj k)) (Nm.ext' (bytes_inj m))))
      · exact .inr (.inr (.inr ⟨h.symm, .inr ⟨k.symm, m⟩⟩))
    · exact .inr (.inr (.inr ⟨h.symm, .inl k⟩))
  · exact .inr (.inr (.inl h))

/-- Writes by their keys. -/
def cmpW (a b : Wr) : Int := cmpK (keO a) (keO b)
def ltW (a b : Wr) : Prop := ltK (keO a) (keO b)

theorem swoW : SWO (ltOf cmpW) := by
  have hl : ∀ a b, ltOf cmpW a b = true ↔ ltW a b := fun a b => by unfold ltOf; rw [decide_eq_true_eq]; exact cmpK_lt _ _
  have hf : ∀ a b, ltOf cmpW a b = false ↔ ¬ ltW a b := fun a b => by rw [← hl]; simp
  refine ⟨fun x => (hf x x).2 (ltK_irr _), fun x y z h k => (hl x z).2 (ltK_trans ((hl x y).1 h) ((hl y z).1 k)), fun x y z h k => (hf x z).2 (fun e => ?_)⟩
  have h1 := (hf x y).1 h
  have h2 := (hf y z).1 k
  rcases ltK_tri (keO x) (keO y) with q | q | q
  · exact h1 q
  · unfold ltW at e h2; rw [q] at e; exact h2 e
  · exact h2 (ltK_trans q e)

set_option maxHeartbeats 1000000 in
theorem vcloW_any (W : World) (x y : Wr) : Calls Try.prog 28 #[.agg #[.string x.b.tn, .string x.b.ar, .string x.n.s, .bool x.there, .string x.data], .agg #[.string y.b.tn, .string y.b.ar, .string y.n.s, .bool y.there, .string y.data]] W fun e w' => e = .returned (.int .i64 (cmpW x y)) ∧ Gr W w' := by
  have HO : Hid (∀ w', Calls Try.prog 29 #[.agg #[.string x.b.tn, .string x.b.ar, .string x.n.s], .agg #[.string y.b.tn, .string y.b.ar, .string y.n.s]] w' fun e w2 => e = .returned (.int .i64 (cmpW x y)) ∧ Gr w' w2) := hid (fun w' => vorder_any w' (keO x) (keO y))
  go_enter Try.func28, Try.ntmps28
  go_wp2_with fail
  refine (HO.out _).mono ?_
  rintro e w2 ⟨rfl, hg⟩
  go_wp2_with fail
  go_ret
  exact ⟨rfl, (((Gr.refl W).alloc _).alloc _).trans hg⟩

theorem Try.enters13w : ∀ args w, (callFunc 28 args).run Try.prog w = .ok (.enter 28 args) w := enters_of Try.func28 (by kernel_rfl) rfl

theorem RowC.ofCellsV {α : Type} {B : Nat} {t k : Nat} {enc : α → List Value} (ok : EncOk enc k) {w : World} {g cap : Nat} {xs : List α} {cur : Array Value} (h : w.heap[g]? = some (.cells cur t (0, 0))) (hs : cur.size = cap * k) (hB : B ≤ g) (hl : xs.length ≤ cap) (hm : cap ≤ maxLen) (hc : ∀ j, j < xs.length * k → cur[j]? = (xs.flatMap enc)[j]?) :
    RowC B t k enc w (.slice (some ⟨g, 0, none⟩) xs.length cap) xs := by
  refine ⟨by rw [flat_length ok], .inr ⟨g, cap, cur, rfl, hB, h, hl, hm, hs, ?_⟩⟩
  apply List.ext_getElem?
  intro j
  by_cases hj : j < xs.length * k
  · rw [List.getElem?_take, if_pos hj, ← hc j hj]
    simp
  · rw [List.getElem?_take, if_neg hj, List.getElem?_eq_none (by rw [flat_length ok]; omega)]

theorem cell_rawV {w : World} {g : Nat} {cur : Array Value} {t : TypeId} (h : w.heap[g]? = some (.cells cur t (0, 0))) (j : Nat) : w.cell? ⟨g, j, none⟩ = cur[j]? := Blk.cell h j

theorem holdsW_row {w : World} {B g n cap : Nat} {xs : List Wr} (h : RowC B 51 5 wrE w (.slice (some ⟨g, 0, none⟩) n cap) xs) : HoldsK wrE 5 w g 0 xs.toArray := by
  intro t ht
  rw [size_flatK] at ht
  have ht2 : t < xs.length * 5 := by simpa using ht
  rw [get_flatK _ _ _ _ ht]
  have h1 := RowC.cell wrE_ok h (t / 5) (t % 5) (by omega) (Nat.mod_lt _ (by decide))
  rw [show t / 5 * 5 + t % 5 = t by omega] at h1
  have e1 : xs.toArray[t / 5]! = xs[t / 5]'(by omega) := by
    rw [getElem!_pos xs.toArray (t / 5) (by simp; omega)]
    simp
  rw [e1, Nat.zero_add]
  refine ⟨?_, RowC.frozen h t⟩
  rw [h1]
  have h3 : t % 5 < (wrE (xs[t / 5]'(by omega))).length := Nat.mod_lt _ (by decide)
  rw [List.getElem?_eq_getElem h3]
  simp [h3]

theorem heap_sortW {w : World} {g n : Nat} {os : Array Obj} {cur : Array Value} {e : TypeId} (d : Array Wr) (hb : w.heap[g]? = some (.cells cur e (0, 0))) :
    ∃ cur' : Array Value, (sortWorldK wrE 5 w g 0 n d os).heap[g]? = some (.cells cur' e (0, 0)) ∧ cur'.size = cur.size := by
  have hg : g < w.heap.size := (Array.getElem?_eq_some_iff.1 hb).1
  unfold sortWorldK
  rw [heap_grow_old _ _ (by simpa [putRowK, putRow, mapBlock, Sort.ahead] using hg)]
  refine ⟨putCells id 0 (flatK wrE 5 d) cur, ?_, by simp [putCells]⟩
  simp [putRowK, putRow, mapBlock, Sort.ahead, Array.getElem?_modify, hb, onCells]

theorem kept_sortW {w : World} {g n : Nat} {os : Array Obj} (d : Array Wr) : Kept (· = g) w (sortWorldK wrE 5 w g 0 n d os) := by
  unfold sortWorldK
  refine ⟨rfl, rfl, rfl, by simp [putRowK, putRow, mapBlock, Sort.ahead], fun k hk hne => ?_⟩
  rw [heap_grow_old _ _ (by simpa [putRowK, putRow, mapBlock, Sort.ahead] using hk)]
  have : g ≠ k := fun e => hne e.symm
  simp [putRowK, putRow, mapBlock, Sort.ahead, Array.getElem?_modify, this]

/-- slices.SortFunc of archives. -/
theorem sortW_any (w : World) (B : Nat) (v : Value) (xs : List Wr) (h : RowC B 51 5 wrE w v xs) (hl : xs.length ≤ 100000) :
    Calls Try.prog 39 #[v, .func (.func 28) #[] #[]] w fun e w' => e = .returned (.tuple #[]) ∧ ∃ ys, ys.Perm xs ∧ ys.Pairwise (fun a b => ¬ ltW b a) ∧ RowC B 51 5 wrE w' v ys ∧ Kept (fun k => v.ownBlock = some k) w w' := by
  rcases h.2 with ⟨hv, h0⟩ | ⟨g, cap, cur, hv, hb, hg, hn, hc, hcs, ht⟩
  · subst hv
    have hz : xs = [] := List.eq_nil_of_length_eq_zero h0
    subst hz
    refine (AnyF.slices_SortFunc_none Try.sortf13 none 0 _ w).mono (fun e w' hh => ?_)
    obtain ⟨rfl, rfl⟩ := hh
    exact ⟨rfl, [], List.Perm.refl _, List.Pairwise.nil, RowC.nil, Kept.refl _ _⟩
  · subst hv
    have hH := holdsW_row h
    have hcmp : CmpLays Try.prog 28 #[] wrE 5 cmpW g 0 xs.toArray.size w := fun m os dk hd x y => (vcloW_any _ x y).mono (fun e w' hh => hh)
    have hS := AnyQ.slices_SortFunc Try.sortf13 5 (fun w => by kernel_rfl) (fun w => by kernel_rfl) wrE (fun _ => rfl) wrE_ok.one cmpW swoW 28 #[] g 0 cap xs.toArray w (enters_of Try.func28 (by kernel_rfl) rfl) hcmp hH (Array.getElem?_eq_some_iff.1 hg).1 (by simp; omega)
    have hS2 : Calls Try.prog 39 #[.slice (some ⟨g, 0, none⟩) xs.length cap, .func (.func 28) #[] #[]] w _ := hS
    refine hS2.mono (fun e w' hh => ?_)
    obtain ⟨rfl, d', n, os, hp, hs, rfl⟩ := hh
    have hsz : d'.size = xs.length := by rw [hp.1]; simp
    have hperm : d'.toList.Perm xs := by
      have h1 := hp.2.2
      have e1 : d'.extract 0 xs.toArray.size = d' := by rw [show xs.toArray.size = d'.size by simp [hsz]]; simp
      rw [e1] at h1
      simpa using h1
    refine ⟨rfl, d'.toList, hperm, ?_, ?_, (kept_sortW d').mono (fun k _ e => by rw [e]; rfl)⟩
    · rw [List.pairwise_iff_getElem]
      intro i j hi hj hij
      have h1 := hs i j (Nat.zero_le _) hij (by simpa [hsz] using hj)
      rw [getElem!_pos d' j (by simpa using hj), getElem!_pos d' i (by simpa using hi)] at h1
      intro e
      have h2 : ltOf cmpW d'[j] d'[i] = true := by unfold ltOf; rw [decide_eq_true_eq]; exact (cmpK_lt _ _).2 (by simpa [ltW] using e)
      rw [h2] at h1
      cases h1
    · obtain ⟨cur', hc', hcz⟩ := heap_sortW (n := n) (os := os) d' hg
      have hH2 : HoldsK wrE 5 (sortWorldK wrE 5 w g 0 n d' os) g 0 d' := by
        unfold sortWorldK
        exact holdsK_grow wrE 5 _ _ _ _ _ (by simpa [putRowK, putRow, mapBlock, Sort.ahead] using (Array.getElem?_eq_some_iff.1 hg).1) (holdsK_putRowK wrE 5 _ _ _ xs.toArray d' (holdsK_ahead wrE 5 _ _ _ _ _ hH) (by simp [hsz]))
      have hr := RowC.ofCellsV (B := B) wrE_ok (xs := d'.toList) (cap := cap) hc' (by rw [hcz, hcs]) hb (by simp; omega) hc (fun j hj => by
        have hj2 : j < d'.size * 5 := by simpa using hj
        have h1 := (hH2.cell (i := j / 5) (c := j % 5) (by omega) (Nat.mod_lt _ (by decide))).1
        rw [show 0 + j / 5 * 5 + j % 5 = j by omega, cell_rawV hc'] at h1
        have h2 := flat_get wrE_ok d'.toList (j / 5) (j % 5) (by simp; omega) (Nat.mod_lt _ (by decide))
        rw [show j / 5 * 5 + j % 5 = j by omega] at h2
        rw [h1, h2]
        have h3 : j % 5 < (wrE d'[j / 5]!).length := Nat.mod_lt _ (by decide)
        have h4 : d'.toList[j / 5]'(by simp; omega) = d'[j / 5]! := by rw [getElem!_pos d' (j / 5) (by omega)]; simp
        rw [h4, List.getElem?_eq_getElem h3]
        simp [h3])
      rw [show d'.toList.length = xs.length by simp [hsz]] at hr
      exact hr

/-- slices.SortedFunc(maps.Values(m), by key). -/
theorem sortedW (L : List (Ke × Wr)) (hk0 : ∀ x ∈ L, keO x.2 = x.1) (mb : Nat) (w : World) (hL : L.length ≤ 100000) (hown : MpG 24 wrR kK wrD w mb L) :
    Calls Try.prog 26 #[.func (.func 40) #[] #[.pointer (some ⟨w.heap.size, 0, none⟩)], .func (.func 28) #[] #[]] (w.alloc (.cells #[.map (some mb)] 62)) fun e w' => ∃ v xs, e = .returned v ∧ xs.Pairwise ltW ∧ (∀ r, r ∈ xs ↔ getG (keO r) L = some r) ∧ RowC w.heap.size 51 5 wrE w' v xs ∧ Same w w' ∧ xs.length ≤ L.length := by
  have HK := collectW L hk0 mb w hL hown
  go_enter Try.func26, Try.ntmps26
  go_wp2_with fail
  refine HK.mono ?_
  rintro e w1 ⟨v, xs, rfl, hkeys, hrow, hk1⟩
  clear HK
  have hrow0 : RowC w.heap.size 51 5 wrE w1 v xs := hrow.base (by omega)
  have hlen : xs.length ≤ 100000 := by have := hkeys.2.2; omega
  have HS := sortW_any w1 w.heap.size v xs hrow0 hlen
  have HK : Hid (ValsAre L xs ∧ Same w w1 ∧ RowC w.heap.size 51 5 wrE w1 v xs) := hid ⟨hkeys, hk1, hrow0⟩
  obtain ⟨a0, c0, hv, _⟩ := hrow0.shape
  obtain ⟨l0, hl0⟩ : ∃ x, x = xs.length := ⟨_, rfl⟩
  rw [← hl0] at hv
  subst hv
  clear hkeys hrow hk1 hrow0 hlen hl0 hown
  go_wp2_with fail
  refine HS.mono ?_
  rintro e w2 ⟨rfl, ys, hp, hs, hr2, hk2⟩
  have HF : Hid (ys.Pairwise ltW ∧ (∀ r, r ∈ ys ↔ getG (keO r) L = some r) ∧ RowC w.heap.size 51 5 wrE w2 (.slice a0 l0 c0) ys ∧ Same w w2 ∧ ys.length ≤ L.length) := hid (by
    refine ⟨?_, fun b => by rw [hp.mem_iff]; exact HK.out.1.2.1 b, hr2, Kept.trans HK.out.2.1 hk2 (fun _ _ f => f) (fun k hlt e => by have := HK.out.2.2.ge e; omega), by rw [hp.length_eq]; exact HK.out.1.2.2⟩
    have hn : (ys.map keO).Nodup := (hp.map keO).nodup_iff.2 HK.out.1.1
    refine (hs.and (List.pairwise_map.1 hn)).imp (fun {a b} h => ?_)
    rcases ltK_tri (keO a) (keO b) with q | q | q
    · exact q
    · exact absurd q h.2
    · exact absurd q h.1)
  clear HS hp hs hr2 hk2
  go_wp2_with fail
  go_ret
  exact ⟨_, ys, rfl, HF.out⟩

set_option maxHeartbeats 400000 in
theorem vwrites_nil (w : World) : Calls Try.prog 12 #[.pointer none] w fun e w' => e = .returned (.slice none 0 0) ∧ w' = w := by
  go_enter Try.func12, Try.ntmps12
  go_wp2_with fail
  go_ret
  exact ⟨rfl, rfl⟩

set_option maxHeartbeats 400000 in
theorem values_any (w : World) (mb : Nat) : Calls Try.prog 27 #[.map (some mb)] w fun e w' => e = .returned (.func (.func 40) #[] #[.pointer (some ⟨w.heap.size, 0, none⟩)]) ∧ w' = w.alloc (.cells #[.map (some mb)] 62) := by
  go_enter Try.func27, Try.ntmps27
  go_wp2_with fail
  go_ret
  exact ⟨rfl, rfl⟩

set_option maxHeartbeats 1000000 in
theorem vwrites_any {K : Nat} {w : World} {p mr ml ms : Nat} {s : Vst} (h : Vk K w p mr ml ms s) : Calls Try.prog 12 #[.pointer (some ⟨p, 0, none⟩)] w fun e w' => ∃ v xs, e = .returned v ∧ xs.Pairwise ltW ∧ (∀ r, r ∈ xs ↔ getG (keO r) s.st = some r) ∧ RowC w.heap.size 51 5 wrE w' v xs ∧ Same w w' ∧ xs.length ≤ 100000 := by
  have HS := sortedW s.st h.own ms w (Nat.le_trans h.lens.2.2 h.big) h.sm
  have HV := values_any w ms
  have p3 : w.cell? ⟨p, 3, none⟩ = some (.map (some ms)) := h.blk.cell 3
  have HL : Hid (s.st.length ≤ 100000) := hid (Nat.le_trans h.lens.2.2 h.big)
  clear h
  go_enter Try.func12, Try.ntmps12
  go_wp2_with fail
  refine HV.mono ?_
  rintro e w1 ⟨rfl, rfl⟩
  go_wp2_with fail
  refine HS.mono ?_
  rintro e w2 ⟨v, xs, rfl, h1, h2, h3, h4, h5⟩
  have HF : Hid (xs.Pairwise ltW ∧ (∀ r, r ∈ xs ↔ getG (keO r) s.st = some r) ∧ RowC w.heap.size 51 5 wrE w2 v xs ∧ Same w w2 ∧ xs.length ≤ 100000) := hid ⟨h1, h2, h3, h4, Nat.le_trans h5 HL.out⟩
  obtain ⟨a0, c0, hv, _⟩ := h3.shape
  obtain ⟨l0, hl0⟩ : ∃ x, x = xs.length := ⟨_, rfl⟩
  rw [← hl0] at hv
  subst hv
  clear h1 h2 h3 h4 h5 HV HS hl0 p3
  go_wp2_with fail
  go_ret
  exact ⟨_, xs, rfl, HF.out⟩

end Go.Proofs.Ytlfibbghkdbomaa
