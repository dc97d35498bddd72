/-
  Layer 17: Check, New.
-/
import Derived.Test.YtjlkchjcmiljjaaDoorQtE
namespace Go.Proofs.YtjlkchjcmiljjaaDoor
open Go.RowKit Go.Maps

theorem qcheck_any (w : World) (ao : Option Addr) (n c : Nat) (xs : List Tn) (I : Nat → Prop) (h : SrcC 4 tnE w I (.slice ao n c) xs) (z : Int) (hz : CkT xs z) : Calls Tryd.prog 9 #[.slice ao n c] w fun e w' => e = .returned (.int .i64 z) ∧ Same w w' := by
  have HC := tcheck_any w ao n c xs I h z hz
  clear h hz
  go_enter Tryd.func9, Tryd.ntmps9
  go_wp2_with fail
  refine HC.mono ?_
  rintro e w2 ⟨rfl, hk2⟩
  have HK2 := hid hk2
  clear hk2 HC
  go_wp2_with fail
  go_ret
  exact ⟨rfl, HK2.out⟩

set_option maxRecDepth 100000 in
set_option maxHeartbeats 400000 in
theorem qnew_bad (w : World) (ao : Option Addr) (n c : Nat) (xs : List Tn) (I : Nat → Prop) (h : SrcC 4 tnE w I (.slice ao n c) xs) (z : Int) (hz : CkT xs z) (h0 : (z == 0) = false) : Calls Tryd.prog 10 #[.slice ao n c] w fun e w' => e = .returned (.tuple #[.pointer none, .int .i64 z]) ∧ Same w w' := by
  have HC := qcheck_any w ao n c xs _ h z hz
  have hz2 : (z != 0) = true := by simp [bne, h0]
  clear h hz
  go_enter Tryd.func10, Tryd.ntmps10
  go_wp2_with fail
  refine HC.mono ?_
  rintro e w2 ⟨rfl, hk2⟩
  have HK2 := hid hk2
  clear hk2 HC
  go_wp2_with fail
  go_ret2
  exact ⟨rfl, HK2.out⟩

/-- A book that is being made. -/
structure Qn (N : Nat) (w : World) (p ma mr : Nat) (bl : List Nat) (xs : List Tn) (i : Nat) : Prop where
  blk : Blk w p #[.map (some ma), .int .i64 0, .map (some mr)] 55
  len : bl.length = i
  nd : bl.Pairwise (fun a b => a ≠ b)
  acc : ∀ k, k < i → Blk w (bl.getD k 0) (acE (mayT xs k) ⟨0, 0⟩ ⟨0, 0⟩) 58
  ten : ∃ A, MpP w ma A ∧ A.length ≤ i ∧ ∀ q, q ∈ A ↔ ∃ k t, k < i ∧ xs[k]? = some t ∧ q = (t.nm, bl.getD k 0)
  res : MpR w mr []
  mm : ma ≠ mr
  new : ∀ k, FQ p ma mr bl k → N ≤ k

theorem qn_new (w : World) (N : Nat) (hN : N ≤ w.heap.size) (xs : List Tn) : Qn N (((w.alloc (.map #[] 0)).alloc (.map #[] 0)).alloc (.cells #[.map (some w.heap.size), .int .i64 0, .map (some (w.heap.size + 1))] 55)) (w.heap.size + 1 + 1) w.heap.size (w.heap.size + 1) [] xs 0 := by
  have hk := fun (W : World) (o : Obj) => (show Same W (W.alloc o) from (Kept.refl _ W).alloc o)
  refine ⟨?_, rfl, List.Pairwise.nil, fun k hk => by omega, ⟨[], ((MpG.new w).kept (hk _ _) (fun f => f)).kept (hk _ _) (fun f => f), by simp, fun q => ⟨fun h => (by cases h), fun ⟨k, t, h, _⟩ => (by omega)⟩⟩, ?_, by omega, fun k h => ?_⟩
  · have h9 := Blk.new ((w.alloc (.map #[] 0)).alloc (.map #[] 0)) #[.map (some w.heap.size), .int .i64 0, .map (some (w.heap.size + 1))] 55
    simpa using h9
  · have h9 := (MpG.new (kt := 3) (R := reR) (kl := kI) (dv := reD) (w.alloc (.map #[] 0))).kept (hk _ (.cells #[.map (some w.heap.size), .int .i64 0, .map (some (w.heap.size + 1))] 55)) (fun f => f)
    simpa using h9
  · rcases h with rfl | rfl | rfl | h
    · omega
    · omega
    · omega
    · cases h

theorem Qn.same {N : Nat} {w w' : World} {p ma mr i : Nat} {bl : List Nat} {xs : List Tn} (h : Qn N w p ma mr bl xs i) (hk : Same w w') : Qn N w' p ma mr bl xs i := by
  obtain ⟨A, h1, h2⟩ := h.ten
  exact ⟨h.blk.kept hk (fun f => f), h.len, h.nd, fun k hkl => (h.acc k hkl).kept hk (fun f => f), ⟨A, h1.kept hk (fun f => f), h2⟩, h.res.kept hk (fun f => f), h.mm, h.new⟩

theorem getD_app (l : List Nat) (x k : Nat) : (l ++ [x]).getD k 0 = if k < l.length then l.getD k 0 else if k = l.length then x else 0 := by
  rw [List.getD_eq_getElem?_getD, List.getD_eq_getElem?_getD, List.getElem?_append]
  split
  · rfl
  · rename_i h
    split
    · rename_i e; subst e; simp
    · rw [List.getElem?_eq_none (by simp; omega)]; rfl

/-- One account more. -/
theorem Qn.step {N : Nat} {w w1 w2 : World} {p ma mr i a : Nat} {bl : List Nat} {xs : List Tn} (h : Qn N w p ma mr bl xs i) {t : Tn} (ht : xs[i]? = some t) (hg : GoodT xs) (hk1 : Same w w1) (hB : Blk w1 a (acE ⟨t.b, t.e⟩ ⟨0, 0⟩ ⟨0, 0⟩) 58) (ha : w.heap.size ≤ a) (hN : N ≤ w.heap.size) {A : List (Nm × Nat)} (hA : A.length ≤ i ∧ ∀ q, q ∈ A ↔ ∃ k t, k < i ∧ xs[k]? = some t ∧ q = (t.nm, bl.getD k 0)) (hM : MpP w2 ma (putG kN t.nm a A)) (hk2 : Kept (· = ma) w1 w2) : Qn N w2 p ma mr (bl ++ [a]) xs (i + 1) := by
  obtain ⟨_, hm0, _⟩ := h.ten
  have hpm : p ≠ ma := hm0.ne h.blk
  have hold : ∀ k, k < i → bl.getD k 0 ≠ ma := fun k hk => hm0.ne (h.acc k hk)
  have hold2 : ∀ k, k < i → bl.getD k 0 < w.heap.size := fun k hk => (h.acc k hk).lt
  have haN : a ≠ ma := by have := hm0.lt; omega
  have hg0 : ∀ k, k < i → (bl ++ [a]).getD k 0 = bl.getD k 0 := fun k hk => by rw [getD_app, if_pos (by rw [h.len]; exact hk)]
  have hg1 : (bl ++ [a]).getD i 0 = a := by rw [getD_app, if_neg (by rw [h.len]; omega), if_pos h.len.symm]
  refine ⟨(h.blk.kept hk1 (fun f => f)).kept hk2 hpm, by rw [List.length_append, h.len]; rfl, ?_, fun k hk => ?_, ⟨_, hM, ?_, fun q => ?_⟩, (h.res.kept hk1 (fun f => f)).kept hk2 (fun e => h.mm e.symm), h.mm, fun k hk => ?_⟩
  · rw [List.pairwise_append]
    refine ⟨h.nd, by simp, fun x hx y hy e => ?_⟩
    simp at hy
    obtain ⟨j, hj, e2⟩ := List.getElem_of_mem hx
    have h9 := hold2 j (by rw [← h.len]; exact hj)
    rw [List.getD_eq_getElem?_getD, List.getElem?_eq_getElem hj] at h9
    simp only [Option.getD_some] at h9
    omega
  · by_cases hki : k < i
    · rw [hg0 k hki]
      exact ((h.acc k hki).kept hk1 (fun f => f)).kept hk2 (hold k hki)
    · obtain rfl : k = i := by omega
      rw [hg1, show mayT xs k = ⟨t.b, t.e⟩ by unfold mayT; rw [List.getD_eq_getElem?_getD, ht]; rfl]
      exact hB.kept hk2 haN
  · have := (putG_len (kl := kN) t.nm a A).2
    have := hA.1
    omega
  · rw [putG_mem]
    constructor
    · rintro (rfl | ⟨hq, _⟩)
      · exact ⟨i, t, by omega, ht, by rw [hg1]⟩
      · obtain ⟨k, t', hk, ht', e⟩ := (hA.2 q).1 hq
        exact ⟨k, t', by omega, ht', by rw [hg0 k hk]; exact e⟩
    · rintro ⟨k, t', hk, ht', e⟩
      by_cases hki : k < i
      · rw [hg0 k hki] at e
        refine .inr ⟨(hA.2 q).2 ⟨k, t', hki, ht', e⟩, fun e2 => ?_⟩
        rw [e] at e2
        have h3 := hg.idx ht
        have h4 := hg.idx ht'
        have e3 : t'.n = t.n := by have := congrArg Nm.s e2; exact this
        rw [e3, h3] at h4
        injection h4 with h4
        omega
      · obtain rfl : k = i := by omega
        rw [ht] at ht'
        injection ht' with ht'
        subst ht'
        rw [hg1] at e
        exact .inl e
  · rcases hk with rfl | rfl | rfl | hk
    · exact h.new _ (.inl rfl)
    · exact h.new _ (.inr (.inl rfl))
    · exact h.new _ (.inr (.inr (.inl rfl)))
    · rcases List.mem_append.1 hk with hk | hk
      · exact h.new _ (.inr (.inr (.inr hk)))
      · simp at hk; omega

theorem Qn.done {N : Nat} {w : World} {p ma mr : Nat} {bl : List Nat} {xs : List Tn} (h : Qn N w p ma mr bl xs xs.length) (hg : GoodT xs) (h8 : xs.length ≤ 8) : Qb w p ma mr bl xs (newS xs.length) := by
  obtain ⟨A, h1, _, h2⟩ := h.ten
  refine ⟨Qv.new hg h8, h.blk, h.len, h.nd, fun k hk => ?_, ⟨A, h1, fun q => ?_⟩, ⟨[], h.res, by simp, fun q => ⟨fun h => (by cases h), fun ⟨_, h, _⟩ => (by cases h)⟩⟩, h.mm⟩
  · rw [newS_use]; exact h.acc k hk
  · rw [h2]
    constructor
    · rintro ⟨k, t, _, ht, e⟩; exact ⟨k, t, ht, e⟩
    · rintro ⟨k, t, ht, e⟩; exact ⟨k, t, (List.getElem?_eq_some_iff.1 ht).1, ht, e⟩

theorem MpP.put1 {w : World} {b : Nat} {A : List (Nm × Nat)} (h : MpP w b A) (s : Nm) (r : Nat) (hL : A.length ≤ 1000000000) :
    ∃ w', (Instr.mapUpdate 52 (.map (some b)) (.string s.s) (.pointer (some ⟨r, 0, none⟩))).run Tryd.prog w = .ok () w' ∧ MpP w' b (putG kN s r A) ∧ Kept (· = b) w w' :=
  MpG.put h klN rdPt nameKey 52 56 Tryd.underlying52 s (.string s.s) (keyN s) hL r

set_option maxRecDepth 100000 in
set_option maxHeartbeats 1000000 in
theorem qnew_good (w0 : World) (ao : Option Addr) (n c : Nat) (xs : List Tn) (h : SrcC 4 tnE w0 (fun k => k < w0.heap.size) (.slice ao n c) xs) (h8 : xs.length ≤ 8) (hg : GoodT xs) : Calls Tryd.prog 10 #[.slice ao n c] w0 fun e w' => ∃ p ma mr bl, e = .returned (.tuple #[.pointer (some ⟨p, 0, none⟩), .int .i64 0]) ∧ Qb w' p ma mr bl xs (newS xs.length) ∧ Same w0 w' ∧ ∀ k, FQ p ma mr bl k → w0.heap.size ≤ k := by
  have HC := qcheck_any w0 ao n c xs _ h 0 (.inr (.inr ⟨h8, hg, rfl⟩))
  have HS0 := hid h
  have HN := hid h.len4
  have H8 : Hid (n ≤ 8 ∧ xs.length ≤ 8) := hid ⟨by have := HN.out; omega, h8⟩
  have HG := hid hg
  clear h h8 hg
  have hmm := @run_makeMap Tryd.prog
  go_enter Tryd.func10, Tryd.ntmps10
  go_wp2_with fail
  refine HC.mono ?_
  rintro e w ⟨rfl, hk0⟩
  obtain ⟨ma, hmt⟩ : ∃ b, b = w.heap.size := ⟨_, rfl⟩
  obtain ⟨mr, hmr⟩ : ∃ b, b = w.heap.size + 1 := ⟨_, rfl⟩
  obtain ⟨p, hp⟩ : ∃ b, b = w.heap.size + 1 + 1 := ⟨_, rfl⟩
  obtain ⟨W3, hW3⟩ : ∃ W, W = ((w.alloc (.map #[] 0)).alloc (.map #[] 0)).alloc (.cells #[.map (some w.heap.size), .int .i64 0, .map (some (w.heap.size + 1))] 55) := ⟨_, rfl⟩
  have HK3 : Hid (Same w0 W3) := hid (by rw [hW3]; exact ((hk0.alloc _).alloc _).alloc _)
  have HB3 : Hid (Qn w0.heap.size W3 p ma mr [] xs 0) := hid (by rw [hW3, hp, hmt, hmr]; exact qn_new w _ hk0.size xs)
  clear hk0 HC
  go_upto_region 5 with fail
  rw [← hW3, ← hp, ← hmr, ← hmt]
  clear hW3 hp hmr hmt hmm
  go_wp2_with fail
  go_loopg [19] n (fun qq z19 wr => ∃ i : Nat, z19 = .int .i64 (i : Nat) ∧ i ≤ n ∧ n - i ≤ qq ∧ ∃ bl, Hid (Qn w0.heap.size wr p ma mr bl xs i ∧ Same w0 wr))
  case atStart => exact ⟨0, rfl, by omega, by omega, [], hid ⟨HB3.out, HK3.out⟩⟩
  case round =>
    obtain ⟨i, rfl, hi, hiq, bl, HI⟩ := hrel
    clear HB3 HK3
    by_cases hlt : i < n
    · have hli : decide (i < n) = true := by simp; omega
      have hli2 : decide ((i : Int) < (n : Int)) = true := by simp; omega
      obtain ⟨b, o, t, rfl, _, ht, k0, k1, k2, k3⟩ := HS0.out.at4 i hlt
      have k0 := HI.out.2.cell k0 (fun f => f)
      have k1 := HI.out.2.cell k1 (fun f => f)
      have k2 := HI.out.2.cell k2 (fun f => f)
      have k3 := HI.out.2.cell k3 (fun f => f)
      have i1 : (0 : Int) ≤ (i : Int) := by omega
      have i2 : (i : Int) < (n : Int) := by omega
      have hiw : IntKind.i64.wrap ((i : Int) + 1) = ((i + 1 : Nat) : Int) := by rw [IntKind.wrap_i64]; have := H8.out; omega
      have HLT := hid hlt
      have HTT := hid ht
      obtain ⟨W4, hW4⟩ : ∃ W, W = wr.alloc (.cells #[.string t.n, .string t.k, .int .i64 t.b, .int .i64 t.e] 29) := ⟨_, rfl⟩
      obtain ⟨tb, htb⟩ : ∃ b, b = wr.heap.size := ⟨_, rfl⟩
      have hk4 : Same wr W4 := by rw [hW4]; exact (Kept.refl _ wr).alloc _
      have HC4 : Hid (Blk W4 tb #[.string t.n, .string t.k, .int .i64 t.b, .int .i64 t.e] 29) := hid (by rw [hW4, htb]; exact Blk.new wr _ _)
      have H4 := hid (HI.out.1.same hk4)
      have HK4 := hid (Same.trans HI.out.2 hk4)
      obtain ⟨W5, hW5⟩ : ∃ W, W = W4.alloc (.cells #[.int .i64 t.b, .int .i64 t.e, .int .i64 0, .int .i64 0, .int .i64 0, .int .i64 0] 58) := ⟨_, rfl⟩
      obtain ⟨a, ha⟩ : ∃ b, b = W4.heap.size := ⟨_, rfl⟩
      have hk5 : Same W4 W5.drew := by rw [hW5]; exact ((Kept.refl _ _).alloc _).drew
      have hB5 : Blk W5.drew a (acE ⟨t.b, t.e⟩ ⟨0, 0⟩ ⟨0, 0⟩) 58 := by rw [hW5, ha]; exact (Blk.new W4 _ _).kept (show Same _ (World.drew _) from (Kept.refl _ _).drew) (fun f => f)
      obtain ⟨A, hA1, hA2⟩ := H4.out.ten
      obtain ⟨w7, hp7, hm7, hk7⟩ := MpP.put1 (hA1.kept hk5 (fun f => f)) t.nm a (by have := hA2.1; have := HLT.out; have := H8.out; omega)
      rw [show t.nm.s = t.n from rfl] at hp7
      have H7 : Hid (Qn w0.heap.size w7 p ma mr (bl ++ [a]) xs (i + 1)) := hid (H4.out.step HTT.out HG.out hk5 hB5 (by omega) HK4.out.size hA2 hm7 hk7)
      have HK7 : Hid (Same w0 w7) := hid (Same.then (Same.trans HK4.out hk5) hk7 (fun k hk e => by have := H4.out.new ma (.inr (.inl rfl)); omega))
      have x0 := H4.out.blk.c3'.1
      obtain ⟨c0, _, c2, c3⟩ := HC4.out.c4
      have x0' := (H4.out.blk.kept hk5 (fun f => f)).c3'.1
      obtain ⟨c0', _, c2', c3'⟩ := (HC4.out.kept hk5 (fun f => f)).c4
      rw [hW5] at hp7 x0' c0' c2' c3'
      rw [ha] at hp7
      clear hk4 ht hlt hk5 hB5 hA1 hA2 hm7 hk7 hW5 ha
      go_upto_region 8 with fail
      rw [← hW4, ← htb]
      clear hW4 htb k0 k1 k2 k3
      go_region
      all_goals
        go_wp2_with fail
        go_roundg (gk - 1)
        case measure => have := HLT.out; omega
        case rel => exact ⟨i + 1, by go_num, HLT.out, by omega, bl ++ [a], hid ⟨H7.out, HK7.out⟩⟩
    · have hli : decide (i < n) = false := by simp; omega
      have hli2 : decide ((i : Int) < (n : Int)) = false := by simp; omega
      obtain rfl : i = n := by omega
      have he : i = xs.length := HN.out.1
      have HQ : Hid (Qb wr p ma mr bl xs (newS xs.length)) := hid (by have h9 := HI.out.1; rw [he] at h9; exact h9.done HG.out H8.out.2)
      have HNW := hid HI.out.1.new
      clear he hlt
      go_wp2_with fail
      go_ret2
      exact ⟨p, ma, mr, bl, rfl, HQ.out, HI.out.2, HNW.out⟩

end Go.Proofs.YtjlkchjcmiljjaaDoor
