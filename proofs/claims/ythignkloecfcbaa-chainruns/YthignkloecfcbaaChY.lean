/-
  Layer 12: archives by their order.
-/
import Derived.Test.YthignkloecfcbaaChX
import Derived.Test.YthignkloecfcbaaChYa
import Derived.Test.YthignkloecfcbaaChShD
namespace Go.Proofs.Ythignkloecfcbaa
open Go.RowKit Go.Maps Go.Sort Go.Shelf Go.Lib

theorem compare_any (a b : ByteArray) (w : World) : Calls Try.prog 51 #[.string a, .string b] w fun e w' => e = .returned (.int .i64 (compareBytes a.data.toList b.data.toList)) ∧ w' = w := Any.strings_Compare Try.cmp12 a b w

def tnB (b : Bx) : List UInt8 := b.tn.data.toList
def arB (b : Bx) : List UInt8 := b.ar.data.toList

/-- The order of archives. -/
def cmpB (a b : Bx) : Int := if compareBytes (tnB a) (tnB b) = 0 then compareBytes (arB a) (arB b) else compareBytes (tnB a) (tnB b)

set_option maxRecDepth 100000 in
set_option maxHeartbeats 1000000 in
theorem order_any (W : World) (x y : Bx) : Calls Try.prog 36 #[.agg #[.string x.tn, .string x.ar], .agg #[.string y.tn, .string y.ar]] W fun e w' => e = .returned (.int .i64 (cmpB x y)) ∧ Gr W w' := by
  obtain ⟨wA, hwA⟩ : ∃ V, V = (W.alloc (.cells #[.string x.tn, .string x.ar] 62)).alloc (.cells #[.string y.tn, .string y.ar] 62) := ⟨_, rfl⟩
  have HG : Hid (Gr W wA) := hid (by rw [hwA]; exact ((Gr.refl W).alloc _).alloc _)
  obtain ⟨xb, hxb⟩ : ∃ z, z = W.heap.size := ⟨_, rfl⟩
  have B1 : Blk wA xb #[.string x.tn, .string x.ar] 62 := by rw [hwA, hxb]; exact (Blk.new W _ _).kept (F := fun _ => False) ((Kept.refl _ _).alloc _) (fun f => f)
  have B2 : Blk wA (xb + 1) #[.string y.tn, .string y.ar] 62 := by
    rw [hwA, hxb]
    have := Blk.new (W.alloc (.cells #[.string x.tn, .string x.ar] 62)) #[.string y.tn, .string y.ar] 62
    rwa [World.size_alloc] at this
  have HOR : Hid (∀ w : World, Calls Try.prog 50 #[.slice (some ⟨w.heap.size, 0, none⟩) 2 2] (w.alloc (.cells #[.int .i64 (compareBytes x.tn.data.toList y.tn.data.toList), .int .i64 (compareBytes x.ar.data.toList y.ar.data.toList)] 3)).drew fun e w' => e = .returned (.int .i64 (cmpB x y)) ∧ Gr w w') := hid (fun w => (or_any _ _ _ _ ((Blk.new w _ _).cell 0) ((Blk.new w _ _).cell 1)).mono (fun e w' h => ⟨h.1, by rw [h.2]; exact ((Gr.refl w).alloc _).drew⟩))
  have a0 := B1.cell 0
  have a1 := B1.cell 1
  have b0 := B2.cell 0
  have b1 := B2.cell 1
  simp at a0 a1 b0 b1
  clear B1 B2
  go_enter Try.func36, Try.ntmps36
  go_upto_region 1 with fail
  rw [← hwA, ← hxb]
  clear hwA hxb
  go_region_held3 (fun w' => w'.cell? ⟨xb, 0, none⟩ = some (.string x.tn) ∧ w'.cell? ⟨xb, 1, none⟩ = some (.string x.ar) ∧ w'.cell? ⟨xb + 1, 0, none⟩ = some (.string y.tn) ∧ w'.cell? ⟨xb + 1, 1, none⟩ = some (.string y.ar))
    (first
      | (go_split_ands; exact ⟨hg3.same.cell ((show Same _ _ from (Kept.refl _ _).drew).cell (by assumption) (fun f => f)) (fun f => f), hg3.same.cell (by assumption) (fun f => f), hg3.same.cell (by assumption) (fun f => f), hg3.same.cell (by assumption) (fun f => f)⟩)
      | go_keep
      | (go_split_ands; exact ⟨(show Same _ _ from (Kept.refl _ _).alloc _).cell (by assumption) (fun f => f), (show Same _ _ from (Kept.refl _ _).alloc _).cell (by assumption) (fun f => f), (show Same _ _ from (Kept.refl _ _).alloc _).cell (by assumption) (fun f => f), (show Same _ _ from (Kept.refl _ _).alloc _).cell (by assumption) (fun f => f)⟩))
    (first
      | (go_at_call 51; refine (compare_any _ _ _).mono ?_; rintro e w2 ⟨rfl, rfl⟩)
      | (go_at_call 50; refine (HOR.out _).mono ?_; rintro e w3 ⟨rfl, hg3⟩))
  go_wp2_with fail
  go_ret
  exact ⟨rfl, HG.out.trans hg3⟩

/-- Archives by their order. -/
def ltB (a b : Bx) : Prop := tnB a < tnB b ∨ (tnB a = tnB b ∧ arB a < arB b)

theorem cmpB_lt (a b : Bx) : cmpB a b < 0 ↔ ltB a b := by
  unfold cmpB ltB
  by_cases h : compareBytes (tnB a) (tnB b) = 0
  · rw [if_pos h, cmp_lt]
    have h2 := (cmp_zero _ _).1 h
    rw [h2]
    constructor
    · intro e; exact .inr ⟨rfl, e⟩
    · rintro (e | e)
      · exact absurd e (List.lt_irrefl _)
      · exact e.2
  · rw [if_neg h, cmp_lt]
    constructor
    · intro e; exact .inl e
    · rintro (e | e)
      · exact e
      · exact absurd ((cmp_zero _ _).2 e.1) h

theorem ltB_irr (a : Bx) : ¬ ltB a a := fun h => by
  rcases h with h | h
  · exact List.lt_irrefl _ h
  · exact List.lt_irrefl _ h.2

theorem ltB_trans {a b c : Bx} (h : ltB a b) (k : ltB b c) : ltB a c := by
  rcases h with h | ⟨h, h'⟩ <;> rcases k with k | ⟨k, k'⟩
  · exact .inl (List.lt_trans h k)
  · exact .inl (by rw [← k]; exact h)
  · exact .inl (by rw [h]; exact k)
  · exact .inr ⟨h.trans k, List.lt_trans h' k'⟩

theorem ltB_tri (a b : Bx) : ltB a b ∨ a = b ∨ ltB b a := by
  rcases list_tri (tnB a) (tnB b) with h | h | h
  · exact .inl (.inl h)
  · rcases list_tri (arB a) (arB b) with k | k | k
    · exact .inl (.inr ⟨h, k⟩)
    · refine .inr (.inl (Bx.ext' ?_ ?_))
      · have : (⟨a.tn, by exact a.ok.1⟩ : Nm) = ⟨b.tn, b.ok.1⟩ := bysN_inj h
        exact congrArg Nm.s this
      · have : (⟨a.ar, by exact a.ok.2⟩ : Nm) = ⟨b.ar, b.ok.2⟩ := bysN_inj k
        exact congrArg Nm.s this
    · exact .inr (.inr (.inr ⟨h.symm, k⟩))
  · exact .inr (.inr (.inl h))

theorem swoB : SWO (ltOf cmpB) := by
  have hl : ∀ a b, ltOf cmpB a b = true ↔ ltB a b := fun a b => by unfold ltOf; rw [decide_eq_true_eq, cmpB_lt]
  have hf : ∀ a b, ltOf cmpB a b = false ↔ ¬ ltB a b := fun a b => by rw [← hl]; simp
  refine ⟨fun x => (hf x x).2 (ltB_irr x), fun x y z h k => (hl x z).2 (ltB_trans ((hl x y).1 h) ((hl y z).1 k)), fun x y z h k => (hf x z).2 (fun e => ?_)⟩
  have h1 := (hf x y).1 h
  have h2 := (hf y z).1 k
  rcases ltB_tri x y with q | q | q
  · exact h1 q
  · rw [q] at e; exact h2 e
  · exact h2 (ltB_trans q e)

theorem keysAre_len {L : List (Bx × Nat)} {xs : List Bx} (h : KeysAre L xs) (hL : L.length ≤ 100000) : xs.length ≤ 100000 := by
  have := h.2.2
  omega

theorem holdsK_row {w : World} {B g n cap : Nat} {xs : List Bx} (h : RowC B 62 2 bxE w (.slice (some ⟨g, 0, none⟩) n cap) xs) : HoldsK bxE 2 w g 0 xs.toArray := by
  intro t ht
  rw [size_flatK] at ht
  have ht2 : t < xs.length * 2 := by simpa using ht
  rw [get_flatK _ _ _ _ ht]
  have h1 := RowC.cell bxE_ok h (t / 2) (t % 2) (by omega) (Nat.mod_lt _ (by decide))
  rw [show t / 2 * 2 + t % 2 = t by omega] at h1
  have e1 : xs.toArray[t / 2]! = xs[t / 2]'(by omega) := by
    rw [getElem!_pos xs.toArray (t / 2) (by simp; omega)]
    simp
  rw [e1, Nat.zero_add]
  refine ⟨?_, RowC.frozen h t⟩
  rw [h1]
  have h3 : t % 2 < (bxE (xs[t / 2]'(by omega))).length := Nat.mod_lt _ (by decide)
  rw [List.getElem?_eq_getElem h3]
  simp [h3]

theorem heap_sortK {w : World} {g n : Nat} {os : Array Obj} {cur : Array Value} {e : TypeId} (d : Array Bx) (hb : w.heap[g]? = some (.cells cur e (0, 0))) :
    ∃ cur' : Array Value, (sortWorldK bxE 2 w g 0 n d os).heap[g]? = some (.cells cur' e (0, 0)) ∧ cur'.size = cur.size := by
  have hg : g < w.heap.size := (Array.getElem?_eq_some_iff.1 hb).1
  unfold sortWorldK
  rw [heap_grow_old _ _ (by simpa [putRowK, putRow, mapBlock, Sort.ahead] using hg)]
  refine ⟨putCells id 0 (flatK bxE 2 d) cur, ?_, by simp [putCells]⟩
  simp [putRowK, putRow, mapBlock, Sort.ahead, Array.getElem?_modify, hb, onCells]

theorem kept_sortK {w : World} {g n : Nat} {os : Array Obj} (d : Array Bx) : Kept (· = g) w (sortWorldK bxE 2 w g 0 n d os) := by
  unfold sortWorldK
  refine ⟨rfl, rfl, rfl, by simp [putRowK, putRow, mapBlock, Sort.ahead], fun k hk hne => ?_⟩
  rw [heap_grow_old _ _ (by simpa [putRowK, putRow, mapBlock, Sort.ahead] using hk)]
  have : g ≠ k := fun e => hne e.symm
  simp [putRowK, putRow, mapBlock, Sort.ahead, Array.getElem?_modify, this]

/-- slices.SortFunc of archives. -/
theorem sortB_any (w : World) (B : Nat) (v : Value) (xs : List Bx) (h : RowC B 62 2 bxE w v xs) (hl : xs.length ≤ 100000) :
    Calls Try.prog 48 #[v, .func (.func 36) #[] #[]] w fun e w' => e = .returned (.tuple #[]) ∧ ∃ ys, ys.Perm xs ∧ ys.Pairwise (fun a b => ¬ ltB b a) ∧ RowC B 62 2 bxE w' v ys ∧ Kept (fun k => v.ownBlock = some k) w w' := by
  rcases h.2 with ⟨hv, h0⟩ | ⟨g, cap, cur, hv, hb, hg, hn, hc, hcs, ht⟩
  · subst hv
    have hz : xs = [] := List.eq_nil_of_length_eq_zero h0
    subst hz
    refine (AnyF.slices_SortFunc_none Try.sortf12 none 0 _ w).mono (fun e w' hh => ?_)
    obtain ⟨rfl, rfl⟩ := hh
    exact ⟨rfl, [], List.Perm.refl _, List.Pairwise.nil, RowC.nil, Kept.refl _ _⟩
  · subst hv
    have hH := holdsK_row h
    have hcmp : CmpLays Try.prog 36 #[] bxE 2 cmpB g 0 xs.toArray.size w := fun m os dk hd x y => (order_any _ x y).mono (fun e w' hh => hh)
    have hS := AnyQ.slices_SortFunc Try.sortf12 2 (fun w => by kernel_rfl) (fun w => by kernel_rfl) bxE (fun _ => rfl) bxE_ok.one cmpB swoB 36 #[] g 0 cap xs.toArray w (enters_of Try.func36 (by kernel_rfl) rfl) hcmp hH (Array.getElem?_eq_some_iff.1 hg).1 (by simp; omega)
    have hS2 : Calls Try.prog 48 #[.slice (some ⟨g, 0, none⟩) xs.length cap, .func (.func 36) #[] #[]] w _ := hS
    refine hS2.mono (fun e w' hh => ?_)
    obtain ⟨rfl, d', n, os, hp, hs, rfl⟩ := hh
    have hsz : d'.size = xs.length := by rw [hp.1]; simp
    have hperm : d'.toList.Perm xs := by
      have h1 := hp.2.2
      have e1 : d'.extract 0 xs.toArray.size = d' := by rw [show xs.toArray.size = d'.size by simp [hsz]]; simp
      rw [e1] at h1
      simpa using h1
    refine ⟨rfl, d'.toList, hperm, ?_, ?_, (kept_sortK d').mono (fun k _ e => by rw [e]; rfl)⟩
    · rw [List.pairwise_iff_getElem]
      intro i j hi hj hij
      have h1 := hs i j (Nat.zero_le _) hij (by simpa [hsz] using hj)
      rw [getElem!_pos d' j (by simpa using hj), getElem!_pos d' i (by simpa using hi)] at h1
      intro e
      have h2 : ltOf cmpB d'[j] d'[i] = true := by unfold ltOf; rw [decide_eq_true_eq, cmpB_lt]; simpa using e
      rw [h2] at h1
      cases h1
    · obtain ⟨cur', hc', hcz⟩ := heap_sortK (n := n) (os := os) d' hg
      have hH2 : HoldsK bxE 2 (sortWorldK bxE 2 w g 0 n d' os) g 0 d' := by
        unfold sortWorldK
        exact holdsK_grow bxE 2 _ _ _ _ _ (by simpa [putRowK, putRow, mapBlock, Sort.ahead] using (Array.getElem?_eq_some_iff.1 hg).1) (holdsK_putRowK bxE 2 _ _ _ xs.toArray d' (holdsK_ahead bxE 2 _ _ _ _ _ hH) (by simp [hsz]))
      have hr := RowC.ofCells (B := B) bxE_ok (xs := d'.toList) (cap := cap) hc' (by rw [hcz, hcs]) hb (by simp; omega) hc (fun j hj => by
        have hj2 : j < d'.size * 2 := by simpa using hj
        have h1 := (hH2.cell (i := j / 2) (c := j % 2) (by omega) (Nat.mod_lt _ (by decide))).1
        rw [show 0 + j / 2 * 2 + j % 2 = j by omega, cell_raw hc'] at h1
        have h2 := flat_get bxE_ok d'.toList (j / 2) (j % 2) (by simp; omega) (Nat.mod_lt _ (by decide))
        rw [show j / 2 * 2 + j % 2 = j by omega] at h2
        rw [h1, h2]
        have h3 : j % 2 < (bxE d'[j / 2]!).length := Nat.mod_lt _ (by decide)
        have h4 : d'.toList[j / 2]'(by simp; omega) = d'[j / 2]! := by rw [getElem!_pos d' (j / 2) (by omega)]; simp
        rw [h4, List.getElem?_eq_getElem h3]
        simp [h3])
      rw [show d'.toList.length = xs.length by simp [hsz]] at hr
      exact hr

/-- slices.SortedFunc(maps.Keys(m), order). -/
theorem sortedB (L : List (Bx × Nat)) (mb : Nat) (w : World) (hL : L.length ≤ 100000) (hown : MpK 62 mpC kB w mb L) :
    Calls Try.prog 34 #[.func (.func 49) #[] #[.pointer (some ⟨w.heap.size, 0, none⟩)], .func (.func 36) #[] #[]] (w.alloc (.cells #[.map (some mb)] 68)) fun e w' => ∃ v xs, e = .returned v ∧ xs.Pairwise ltB ∧ (∀ b, b ∈ xs ↔ ∃ a, getK b L = some a) ∧ RowC w.heap.size 62 2 bxE w' v xs ∧ Same w w' ∧ xs.length ≤ 100000 := by
  have HK := collectB L mb w hL hown
  go_enter Try.func34, Try.ntmps34
  go_wp2_with fail
  refine HK.mono ?_
  rintro e w1 ⟨v, xs, rfl, hkeys, hrow, hk1⟩
  clear HK
  have hrow0 : RowC w.heap.size 62 2 bxE w1 v xs := hrow.base (by omega)
  have hlen : xs.length ≤ 100000 := keysAre_len hkeys hL
  have HS := sortB_any w1 w.heap.size v xs hrow0 hlen
  have HK : Hid (KeysAre L xs ∧ Same w w1 ∧ RowC w.heap.size 62 2 bxE w1 v xs) := hid ⟨hkeys, hk1, hrow0⟩
  obtain ⟨a0, c0, hv, _⟩ := hrow0.shape
  obtain ⟨l0, hl0⟩ : ∃ x, x = xs.length := ⟨_, rfl⟩
  rw [← hl0] at hv
  subst hv
  clear hkeys hrow hk1 hrow0 hlen hl0 hown
  go_wp2_with fail
  refine HS.mono ?_
  rintro e w2 ⟨rfl, ys, hp, hs, hr2, hk2⟩
  have HF : Hid (ys.Pairwise ltB ∧ (∀ b, b ∈ ys ↔ ∃ a, getK b L = some a) ∧ RowC w.heap.size 62 2 bxE w2 (.slice a0 l0 c0) ys ∧ Same w w2 ∧ ys.length ≤ 100000) := hid (by
    refine ⟨?_, fun b => by rw [hp.mem_iff]; exact HK.out.1.2.1 b, hr2, Kept.trans HK.out.2.1 hk2 (fun _ _ f => f) (fun k hlt e => by have := HK.out.2.2.ge e; omega), by rw [hp.length_eq]; exact keysAre_len HK.out.1 hL⟩
    have hn : ys.Nodup := hp.nodup_iff.2 HK.out.1.1
    refine (hs.and hn).imp (fun {a b} h => ?_)
    rcases ltB_tri a b with q | q | q
    · exact q
    · exact absurd q h.2
    · exact absurd q h.1)
  clear HS hp hs hr2 hk2
  go_wp2_with fail
  go_ret
  exact ⟨_, ys, rfl, HF.out⟩

end Go.Proofs.Ythignkloecfcbaa
