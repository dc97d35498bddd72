/-
  Layer 16: Print; texts parted and joined.
-/
import Derived.Test.YtfhfnkhiomahfaaGreatDoorTkC
namespace Go.Proofs.YtfhfnkhiomahfaaGreatDoor
open Go.RowKit Go.Shelf

theorem Tryz.sizeClaim : (Tryz.prog.info? 23).map (·.size) = some 3 := by kernel_rfl

theorem loadC16 {W : World} {g : Nat} {t : ByteArray} {u s : Int} {ty : TypeId} (hb : Blk W g #[.string t, .int .i64 u, .int .i64 s] ty) : (loadVar 23 ⟨g, 0, none⟩).run Tryz.prog W = .ok (clV t u s) W :=
  run_load15 23 3 _ Tryz.underlying23 rfl Tryz.sizeClaim hb [.string t, .int .i64 u, .int .i64 s] rfl rfl

theorem Blk.c3 {w : World} {g : Nat} {a b c : Value} {t : TypeId} (hb : Blk w g #[a, b, c] t) : w.cell? ⟨g, 0, none⟩ = some a ∧ w.cell? ⟨g, 1, none⟩ = some b ∧ w.cell? ⟨g, 2, none⟩ = some c ∧ w.frozen? ⟨g, 0, none⟩ = false ∧ w.frozen? ⟨g, 1, none⟩ = false ∧ w.frozen? ⟨g, 2, none⟩ = false :=
  ⟨hb.cell 0, hb.cell 1, hb.cell 2, hb.frozen 0, hb.frozen 1, hb.frozen 2⟩

theorem set16 {w : World} {g : Nat} {a0 a1 a2 x0 x1 x2 : Value} {t : TypeId} (hb : Blk w g #[a0, a1, a2] t) : Blk (((w.setCell ⟨g, 0, none⟩ x0).setCell ⟨g, 1, none⟩ x1).setCell ⟨g, 2, none⟩ x2) g #[x0, x1, x2] t ∧ Kept (· = g) w (((w.setCell ⟨g, 0, none⟩ x0).setCell ⟨g, 1, none⟩ x1).setCell ⟨g, 2, none⟩ x2) := by
  refine ⟨?_, (((Kept.refl (· = g) w).setCell _ _ (.inl rfl)).setCell _ _ (.inl rfl)).setCell _ _ (.inl rfl)⟩
  have h9 := ((hb.set 0 x0).set 1 x1).set 2 x2
  simpa using h9

theorem results_16 {fn : Func} {a p b : Tmp} {ty : TypeId} (h : fn.results = #[.cell p ty, .tmp a, .tmp b]) (tmps : Array Value) (P : Program) (w w1 w2 : World) (x : Addr) (v : Value) (h1 : (asAddr (tmps.getD p undef)).run P w = .ok x w1) (h2 : (loadVar ty x).run P w1 = .ok v w2) :
    (results fn tmps).run P w = .ok (.tuple #[v, tmps.getD a undef, tmps.getD b undef]) w2 := by
  simp only [results, h]
  simp only [Array.getD_eq_getD_getElem?] at h1 ⊢
  simp [Sem.run_bind, Result.andThen, h1, h2]

theorem results_16b {fn : Func} {p b : Tmp} {ty : TypeId} (h : fn.results = #[.cell p ty, .tmp b]) (tmps : Array Value) (P : Program) (w w1 w2 : World) (x : Addr) (v : Value) (h1 : (asAddr (tmps.getD p undef)).run P w = .ok x w1) (h2 : (loadVar ty x).run P w1 = .ok v w2) :
    (results fn tmps).run P w = .ok (.tuple #[v, tmps.getD b undef]) w2 := by
  simp only [results, h]
  simp only [Array.getD_eq_getD_getElem?] at h1 ⊢
  simp [Sem.run_bind, Result.andThen, h1, h2]

theorem tok_sum (t k : ByteArray) (u s : Int) : tx6 (bodI t u s) ++ tx6 [46] ++ tx6 (macL k (bodI t u s)) = tx6 (bodI t u s ++ 46 :: macL k (bodI t u s)) := by
  rw [tx6_app, tx6_app]
  congr 1
  simp

theorem macL_length (k : ByteArray) (b : List UInt8) : (macL k b).length = 64 := (isM_pt (macL_isM k b)).2

theorem bodI_length (t : ByteArray) (u s : Int) (hu : -9223372036854775808 ≤ u ∧ u ≤ 9223372036854775807) (hs : -9223372036854775808 ≤ s ∧ s ≤ 9223372036854775807) : (bodI t u s).length ≤ t.size + 44 := by
  have h1 := Lib.itoa_length_le u hu.1 hu.2
  have h2 := Lib.itoa_length_le s hs.1 hs.2
  have h3 : t.data.toList.length = t.size := Array.length_toList
  simp only [bodI, List.length_append, List.length_cons]
  omega

set_option maxRecDepth 100000 in
set_option maxHeartbeats 1000000 in
theorem print_ok (w : World) (h : W6 w) (t : ByteArray) (u s : Int) (k : ByteArray) (hk : k.size ≤ 64) (ht : t.size ≤ 100000000) (hu : -9223372036854775808 ≤ u ∧ u ≤ 9223372036854775807) (hs : -9223372036854775808 ≤ s ∧ s ≤ 9223372036854775807) (hm : mayB t u s = true) :
    Calls Tryz.prog 10 #[clV t u s, .string k] w fun e w' => e = .returned (.tuple #[.string (tx6 (bodI t u s ++ 46 :: macL k (bodI t u s))), .int .i64 0]) ∧ Same w w' := by
  obtain ⟨W1, hW1⟩ : ∃ W, W = w.alloc (.cells #[.string t, .int .i64 u, .int .i64 s] 23) := ⟨_, rfl⟩
  obtain ⟨xb, hxb⟩ : ∃ b, b = w.heap.size := ⟨_, rfl⟩
  have HK1 : Hid (Same w W1) := hid (by rw [hW1]; exact (Kept.refl _ w).alloc _)
  have HB : Hid (Blk W1 xb #[.string t, .int .i64 u, .int .i64 s] 23) := hid (by rw [hW1, hxb]; exact Blk.new w _ _)
  obtain ⟨x0, x1, x2, _, _, _⟩ := HB.out.c3
  have HM := mayBe_any W1 t u s true hm
  have HBO : Hid (∀ W, Same W1 W → Calls Tryz.prog 25 #[clV t u s] W fun e w' => e = .returned (.string (tx6 (bodI t u s))) ∧ Same W w') := hid (fun W hW => body_any W (h.same (Same.trans HK1.out hW)) t u s (by omega) hu hs)
  have HMA : Hid (∀ W, Same W1 W → Calls Tryz.prog 26 #[clV t u s, .string k] W fun e w' => e = .returned (.string (tx6 (macL k (bodI t u s)))) ∧ Same W w') := hid (fun W hW => mac_any W (h.same (Same.trans HK1.out hW)) t u s k (by omega) ht hu hs)
  have HLD : Hid (∀ W, Same W1 W → (loadVar 23 ⟨xb, 0, none⟩).run Tryz.prog W = .ok (clV t u s) W) := hid (fun W hW => loadC16 (HB.out.kept hW (fun f => f)))
  have b1 : (k.size : Int) ≤ 64 := by omega
  have HBL : Hid ((tx6 (bodI t u s)).size ≤ 200000000) := hid (by rw [tx6_size]; have := bodI_length t u s hu hs; omega)
  unfold clV at HM
  obtain ⟨cv, hcv⟩ : ∃ v, v = clV t u s := ⟨_, rfl⟩
  rw [← hcv] at HBO HMA HLD
  unfold clV
  clear h hu hs ht hk hm hcv
  go_enter Tryz.func10, Tryz.ntmps10
  go_upto_region 1 with fail
  rw [← hW1, ← hxb]
  clear hW1 hxb
  go_wp2_with fail
  refine HM.mono ?_
  rintro e w2 ⟨rfl, hk2⟩
  have HK2 : Hid (Same W1 w2) := hk2
  clear hk2 HM
  go_wp2_with fail
  refine wp_region_same (by kernel_rfl) (by kernel_rfl) ?_
  refine wpq_value rfl cv (fun W hW => run_load_op _ rfl (HLD.out W (Same.trans HK2.out hW))) ?_
  simp only [Act.put, List.setIfInBounds_toArray, List.set_cons_zero, List.set_cons_succ]
  refine wpq_call rfl 25 #[cv] (.string (tx6 (bodI t u s))) (fun W => by go_simp) (calls_same (fun W hW => HBO.out W (Same.trans HK2.out hW))) ?_
  simp only [Act.put, List.setIfInBounds_toArray, List.set_cons_zero, List.set_cons_succ]
  refine wpq_value rfl (.string (tx6 (bodI t u s) ++ tx6 [46])) (fun W _ => run_add_op rfl rfl (by have := HBL.out; rw [tx6_size [46]]; simp; omega)) ?_
  simp only [Act.put, List.setIfInBounds_toArray, List.set_cons_zero, List.set_cons_succ]
  refine wpq_value rfl cv (fun W hW => run_load_op _ rfl (HLD.out W (Same.trans HK2.out hW))) ?_
  simp only [Act.put, List.setIfInBounds_toArray, List.set_cons_zero, List.set_cons_succ]
  refine wpq_value rfl (.string k) (fun W _ => rfl) ?_
  simp only [Act.put, List.setIfInBounds_toArray, List.set_cons_zero, List.set_cons_succ]
  refine wpq_call rfl 26 #[cv, .string k] (.string (tx6 (macL k (bodI t u s)))) (fun W => by go_simp) (calls_same (fun W hW => HMA.out W (Same.trans HK2.out hW))) ?_
  simp only [Act.put, List.setIfInBounds_toArray, List.set_cons_zero, List.set_cons_succ]
  refine wpq_value rfl (.string (tx6 (bodI t u s ++ 46 :: macL k (bodI t u s)))) (fun W _ => by rw [← tok_sum]; exact run_add_op rfl rfl (by have := HBL.out; rw [ByteArray.size_append, tx6_size [46], tx6_size (macL _ _), macL_length]; simp; omega)) ?_
  simp only [Act.put, List.setIfInBounds_toArray, List.set_cons_zero, List.set_cons_succ]
  refine wpq_value rfl (.string (tx6 (bodI t u s ++ 46 :: macL k (bodI t u s)))) (fun W _ => rfl) ?_
  simp only [Act.put, List.setIfInBounds_toArray, List.set_cons_zero, List.set_cons_succ]
  refine wpq_value rfl (.int .i64 0) (fun W _ => rfl) ?_
  simp only [Act.put, List.setIfInBounds_toArray, List.set_cons_zero, List.set_cons_succ]
  refine wpQuiet_nil ?_
  intro w9 hk9
  have HK9 : Hid (Same w w9) := hid (Same.trans HK1.out (Same.trans HK2.out hk9))
  clear hk9
  go_wp2_with fail
  go_ret2
  exact ⟨rfl, HK9.out⟩

set_option maxRecDepth 100000 in
set_option maxHeartbeats 400000 in
theorem print_bad (w : World) (t : ByteArray) (u s : Int) (k : ByteArray) (hm : mayB t u s = false ∨ 64 < k.size) :
    Calls Tryz.prog 10 #[clV t u s, .string k] w fun e w' => e = .returned (.tuple #[.string ⟨#[]⟩, .int .i64 1]) ∧ Same w w' := by
  obtain ⟨W1, hW1⟩ : ∃ W, W = w.alloc (.cells #[.string t, .int .i64 u, .int .i64 s] 23) := ⟨_, rfl⟩
  obtain ⟨xb, hxb⟩ : ∃ b, b = w.heap.size := ⟨_, rfl⟩
  have HK1 : Hid (Same w W1) := hid (by rw [hW1]; exact (Kept.refl _ w).alloc _)
  have HB : Hid (Blk W1 xb #[.string t, .int .i64 u, .int .i64 s] 23) := hid (by rw [hW1, hxb]; exact Blk.new w _ _)
  obtain ⟨x0, x1, x2, _, _, _⟩ := HB.out.c3
  cases B1 : mayB t u s with
  | false =>
    have HM := mayBe_any W1 t u s false B1
    unfold clV at HM ⊢
    clear B1 hm
    go_enter Tryz.func10, Tryz.ntmps10
    go_upto_region 1 with fail
    rw [← hW1, ← hxb]
    clear hW1 hxb
    go_wp2_with fail
    refine HM.mono ?_
    rintro e w2 ⟨rfl, hk2⟩
    have HK2 : Hid (Same w w2) := Same.trans HK1.out hk2
    clear hk2 HM
    go_wp2_with fail
    go_ret2
    exact ⟨rfl, HK2.out⟩
  | true =>
    have HM := mayBe_any W1 t u s true B1
    have b1 : (64 : Int) < (k.size : Int) := by
      rcases hm with e | e
      · rw [B1] at e; cases e
      · omega
    unfold clV at HM ⊢
    clear B1 hm
    go_enter Tryz.func10, Tryz.ntmps10
    go_upto_region 1 with fail
    rw [← hW1, ← hxb]
    clear hW1 hxb
    go_wp2_with fail
    refine HM.mono ?_
    rintro e w2 ⟨rfl, hk2⟩
    have HK2 : Hid (Same w w2) := Same.trans HK1.out hk2
    clear hk2 HM
    go_wp2_with fail
    go_ret2
    exact ⟨rfl, HK2.out⟩

/-- The parts of a text between points. -/
def prts6 (s : ByteArray) : List ByteArray := Lib.splitB ⟨#[46]⟩ 0 (Lib.countB s ⟨#[46]⟩) s

theorem prts6_spl (s : ByteArray) : (prts6 s).map (·.data.toList) = splC s.data.toList := by
  have h := Lib.splitB_data ⟨#[46]⟩ 0 (Lib.countB s ⟨#[46]⟩) s
  have h2 := split_splC s.data.toList
  have e : Lib.countB s ⟨#[46]⟩ = s.data.toList.count 46 := Lib.count_one 46 _
  unfold prts6
  rw [h]
  rw [← e] at h2
  exact h2

theorem split6_any (w : World) (h : W6 w) (s : ByteArray) (hs : s.size ≤ 1000000) :
    Calls Tryz.prog 30 #[.string s, .string ⟨#[46]⟩] w fun e w' => e = .returned (.slice (some ⟨w.heap.size, 0, none⟩) (prts6 s).length (prts6 s).length) ∧ Blk w' w.heap.size ((prts6 s).map Value.string).toArray 9 ∧ Same w w' := by
  obtain ⟨mx, hmx⟩ := h.mxl
  have hcn : Lib.countB s ⟨#[46]⟩ + 1 = (prts6 s).length := (Lib.splitB_all ⟨#[46]⟩ (by decide) 0 _ s rfl).symm
  have HSP := Any.strings_Split Tryz.lays146 (by kernel_rfl) s ⟨#[46]⟩ mx w (by omega) hmx (by decide)
  rw [hcn] at HSP
  refine HSP.mono ?_
  rintro x w1 ⟨rfl, hw1⟩
  refine ⟨rfl, ?_, ?_⟩
  · rw [hw1]; exact Blk.new w _ _
  · rw [hw1]; exact (Kept.refl _ _).alloc _

theorem join6_any (w : World) (g c : Nat) (p0 p1 p2 : ByteArray) (hc : w.cell? ⟨g, 0, none⟩ = some (.string p0) ∧ w.cell? ⟨g, 1, none⟩ = some (.string p1) ∧ w.cell? ⟨g, 2, none⟩ = some (.string p2)) (hg : g < w.heap.size) (h3 : 3 ≤ c) (h0 : p0.size ≤ 1000000) (h1 : p1.size ≤ 1000000) (h2 : p2.size ≤ 1000000) :
    Calls Tryz.prog 33 #[.slice (some ⟨g, 0, none⟩) 3 c, .string ⟨#[46]⟩] w fun e w' => e = .returned (.string (tx6 (p0.data.toList ++ 46 :: (p1.data.toList ++ 46 :: p2.data.toList)))) ∧ Same w w' := by
  have hj : Lib.join ([p0, p1, p2].map (·.data.toList)) (ByteArray.mk #[46]).data.toList = p0.data.toList ++ 46 :: (p1.data.toList ++ 46 :: p2.data.toList) := by
    simp [Lib.join]
  have hl0 : p0.data.toList.length = p0.size := Array.length_toList
  have hl1 : p1.data.toList.length = p1.size := Array.length_toList
  have hl2 : p2.data.toList.length = p2.size := Array.length_toList
  have H := Any.strings_Join Tryz.join16 Tryz.extra16 g 0 c [p0, p1, p2] ⟨#[46]⟩ w (fun j x hx => by
    match j with
    | 0 => simp at hx; subst hx; exact hc.1
    | 1 => simp at hx; subst hx; exact hc.2.1
    | 2 => simp at hx; subst hx; exact hc.2.2
    | j + 3 => simp at hx) hg (by simp) (by simpa using h3) (by rw [hj]; simp only [List.length_append, List.length_cons]; omega)
  rw [hj] at H
  refine H.mono ?_
  rintro e w' ⟨rfl, hb⟩
  exact ⟨rfl, below_same16 hb⟩

end Go.Proofs.YtfhfnkhiomahfaaGreatDoor
