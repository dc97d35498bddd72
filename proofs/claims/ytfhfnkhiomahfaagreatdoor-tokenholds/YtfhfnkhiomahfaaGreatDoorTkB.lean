/-
  Layer 16: isTime, isSerial, mayBe, isMac, body.
-/
import Derived.Test.YtfhfnkhiomahfaaGreatDoorTkA
import Derived.Test.YtfhfnkhiomahfaaGreatDoorTns
namespace Go.Proofs.YtfhfnkhiomahfaaGreatDoor
open Go.RowKit Go.Shelf

section
variable {P : Program}
theorem run_add_op {x y : Operand} {ty ty2 : TypeId} {dst : Option Tmp} {tp : TypeId} {pos : String} {af : Array Edge} {gd : Option (Nat × Bool)} {a : Act} {s t : ByteArray} (hx : a.eval x = .string s) (hy : a.eval y = .string t) (hl : s.size + t.size ≤ 9223372036854775807) {W : World} :
    (execOp a.eval { dst := dst, op := .binOp .add ty x y ty2, type := tp, pos := pos, after := af, guard := gd }).run P W = .ok (.value (.string (s ++ t))) W := by
  have h := run_string_add_sum (P := P) (w := W) s t hl
  unfold execOp
  simp only [hx, hy]
  go_simp
end

theorem load_cell16 {ty : TypeId} {d : TypeDesc} (hu : Tryz.prog.underlying ty = some d) (hd : (match d with | .struct _ | .array _ _ => true | _ => false) = false) {W : World} {a : Addr} {v : Value} (hc : W.cell? a = some v) : (loadVar ty a).run Tryz.prog W = .ok v W := by
  have hagg : (isAgg ty).run Tryz.prog W = .ok false W := by
    unfold isAgg
    rw [Sem.run_bind, run_underlying hu W]
    cases d <;> simp_all
  simp [loadVar, Sem.run_bind, hagg, hc]

def clV (t : ByteArray) (u s : Int) : Value := .agg #[.string t, .int .i64 u, .int .i64 s]

theorem isTime_any (w : World) (n : Int) (b : Bool) (hb : decide (0 ≤ n ∧ n ≤ 1000000000) = b) : Calls Tryz.prog 39 #[.int .i64 n] w fun e w' => e = .returned (.bool b) ∧ Same w w' := by
  by_cases h1 : 0 ≤ n
  · by_cases h2 : n ≤ 1000000000
    · obtain rfl : true = b := by rw [← hb]; simp [h1, h2]
      clear hb
      go_enter Tryz.func39, Tryz.ntmps39
      go_wp2_with fail
      go_ret
      exact ⟨rfl, Kept.refl _ _⟩
    · obtain rfl : false = b := by rw [← hb]; simp [h2]
      have h3 : decide (n ≤ 1000000000) = false := decide_eq_false h2
      clear hb
      go_enter Tryz.func39, Tryz.ntmps39
      go_wp2_with fail
      go_ret
      exact ⟨rfl, Kept.refl _ _⟩
  · obtain rfl : false = b := by rw [← hb]; simp [h1]
    have h3 : decide (0 ≤ n) = false := decide_eq_false h1
    clear hb
    go_enter Tryz.func39, Tryz.ntmps39
    go_wp2_with fail
    go_ret
    exact ⟨rfl, Kept.refl _ _⟩

theorem isSerial_any (w : World) (n : Int) (b : Bool) (hb : decide (1 ≤ n ∧ n ≤ 1000000000) = b) : Calls Tryz.prog 41 #[.int .i64 n] w fun e w' => e = .returned (.bool b) ∧ Same w w' := by
  by_cases h1 : 1 ≤ n
  · by_cases h2 : n ≤ 1000000000
    · obtain rfl : true = b := by rw [← hb]; simp [h1, h2]
      clear hb
      go_enter Tryz.func41, Tryz.ntmps41
      go_wp2_with fail
      go_ret
      exact ⟨rfl, Kept.refl _ _⟩
    · obtain rfl : false = b := by rw [← hb]; simp [h2]
      have h3 : decide (n ≤ 1000000000) = false := decide_eq_false h2
      clear hb
      go_enter Tryz.func41, Tryz.ntmps41
      go_wp2_with fail
      go_ret
      exact ⟨rfl, Kept.refl _ _⟩
  · obtain rfl : false = b := by rw [← hb]; simp [h1]
    have h3 : decide (1 ≤ n) = false := decide_eq_false h1
    clear hb
    go_enter Tryz.func41, Tryz.ntmps41
    go_wp2_with fail
    go_ret
    exact ⟨rfl, Kept.refl _ _⟩

set_option maxRecDepth 100000 in
set_option maxHeartbeats 400000 in
theorem mayBe_any (w : World) (t : ByteArray) (u s : Int) (b : Bool) (hb : mayB t u s = b) : Calls Tryz.prog 24 #[clV t u s] w fun e w' => e = .returned (.bool b) ∧ Same w w' := by
  unfold clV
  obtain ⟨W1, hW1⟩ : ∃ W, W = w.alloc (.cells #[.string t, .int .i64 u, .int .i64 s] 23) := ⟨_, rfl⟩
  obtain ⟨xb, hxb⟩ : ∃ b, b = w.heap.size := ⟨_, rfl⟩
  have HK1 : Hid (Same w W1) := hid (by rw [hW1]; exact (Kept.refl _ w).alloc _)
  have HB : Hid (Blk W1 xb #[.string t, .int .i64 u, .int .i64 s] 23) := hid (by rw [hW1, hxb]; exact Blk.new w _ _)
  have x0 := HB.out.cell 0
  simp only [List.getElem?_toArray, List.getElem?_cons_zero] at x0
  cases B1 : sho t with
  | false =>
    have HS := short_is W1 t false B1
    obtain rfl : false = b := by rw [← hb]; unfold mayB; rw [B1]; rfl
    clear hb B1
    go_enter Tryz.func24, Tryz.ntmps24
    go_wp2_with fail
    rw [← hW1, ← hxb]
    clear hW1 hxb
    go_wp2_with fail
    refine HS.mono ?_
    rintro e w2 ⟨rfl, hk2⟩
    have HK2 := hid (Same.trans HK1.out hk2)
    clear hk2 HS
    go_wp2_with fail
    go_ret
    exact ⟨rfl, HK2.out⟩
  | true =>
    have HS := short_is W1 t true B1
    cases B2 : decide (0 ≤ u ∧ u ≤ 1000000000) with
    | false =>
      obtain rfl : false = b := by rw [← hb]; unfold mayB; rw [B1, B2]; rfl
      have HT : Hid (∀ W, Calls Tryz.prog 39 #[.int .i64 u] W fun e w' => e = .returned (.bool false) ∧ Same W w') := hid (fun W => isTime_any W u false B2)
      clear hb B1 B2
      go_enter Tryz.func24, Tryz.ntmps24
      go_wp2_with fail
      rw [← hW1, ← hxb]
      clear hW1 hxb
      go_wp2_with fail
      refine HS.mono ?_
      rintro e w2 ⟨rfl, hk2⟩
      have x1 := (HB.out.kept hk2 (fun f => f)).cell 1
      simp only [List.getElem?_toArray, List.getElem?_cons_zero, List.getElem?_cons_succ] at x1
      have HK2 := hid (Same.trans HK1.out hk2)
      clear hk2 HS x0
      go_wp2_with fail
      refine (HT.out _).mono ?_
      rintro e w3 ⟨rfl, hk3⟩
      have HK3 := hid (Same.trans HK2.out hk3)
      clear hk3
      go_wp2_with fail
      go_ret
      exact ⟨rfl, HK3.out⟩
    | true =>
      obtain rfl : decide (1 ≤ s ∧ s ≤ 1000000000) = b := by rw [← hb]; unfold mayB; rw [B1, B2]; rfl
      have HT : Hid (∀ W, Calls Tryz.prog 39 #[.int .i64 u] W fun e w' => e = .returned (.bool true) ∧ Same W w') := hid (fun W => isTime_any W u true B2)
      obtain ⟨b3, hb3⟩ : ∃ b3, b3 = decide (1 ≤ s ∧ s ≤ 1000000000) := ⟨_, rfl⟩
      have HU : Hid (∀ W, Calls Tryz.prog 41 #[.int .i64 s] W fun e w' => e = .returned (.bool b3) ∧ Same W w') := hid (fun W => isSerial_any W s b3 hb3.symm)
      rw [← hb3]
      clear hb B1 B2 hb3
      go_enter Tryz.func24, Tryz.ntmps24
      go_wp2_with fail
      rw [← hW1, ← hxb]
      clear hW1 hxb
      go_wp2_with fail
      refine HS.mono ?_
      rintro e w2 ⟨rfl, hk2⟩
      have HB2 := hid (HB.out.kept hk2 (fun f => f))
      have x1 := HB2.out.cell 1
      simp only [List.getElem?_toArray, List.getElem?_cons_zero, List.getElem?_cons_succ] at x1
      have HK2 := hid (Same.trans HK1.out hk2)
      clear hk2 HS x0 HB
      go_wp2_with fail
      refine (HT.out _).mono ?_
      rintro e w3 ⟨rfl, hk3⟩
      have x2 := (HB2.out.kept hk3 (fun f => f)).cell 2
      simp only [List.getElem?_toArray, List.getElem?_cons_zero, List.getElem?_cons_succ] at x2
      have HK3 := hid (Same.trans HK2.out hk3)
      clear hk3 x1
      go_wp2_with fail
      refine (HU.out _).mono ?_
      rintro e w4 ⟨rfl, hk4⟩
      have HK4 := hid (Same.trans HK3.out hk4)
      clear hk4
      cases b3
      · go_wp2_with fail
        go_ret
        exact ⟨rfl, HK4.out⟩
      · go_wp2_with fail
        go_ret
        exact ⟨rfl, HK4.out⟩

theorem isM_trim (s : ByteArray) (h : s.size = 64) : (⟨(Lib.trimS s.data.toList hexs).toArray⟩ : ByteArray).toList.isEmpty = isM s.data.toList := by
  have h1 := empty14 (Lib.trimS s.data.toList hexs)
  have h2 := trim14 hexs s.data.toList
  have h3 : isM s.data.toList = s.data.toList.all (hexs.contains ·) := by
    unfold isM
    rw [show decide (s.data.toList.length = 64) = true from decide_eq_true (by simpa using h)]
    rfl
  rw [h3]
  cases h4 : s.data.toList.all (hexs.contains ·) with
  | true => exact h1.2 (h2.2 h4)
  | false =>
    cases h5 : (⟨(Lib.trimS s.data.toList hexs).toArray⟩ : ByteArray).toList.isEmpty with
    | false => rfl
    | true => rw [h2.1 (h1.1 h5)] at h4; cases h4

set_option maxRecDepth 100000 in
set_option maxHeartbeats 400000 in
theorem isMac_any (w : World) (s : ByteArray) : Calls Tryz.prog 31 #[.string s] w fun e w' => e = .returned (.bool (isM s.data.toList)) ∧ Same w w' := by
  by_cases h : s.size = 64
  · have HTR := Any.strings_Trim_laid Tryz.lays160 (by kernel_rfl) s ⟨#[48, 49, 50, 51, 52, 53, 54, 55, 56, 57, 97, 98, 99, 100, 101, 102]⟩ w (by omega) (by decide) (ascii_of_all (by decide))
    obtain ⟨tr, htr⟩ : ∃ tr : ByteArray, tr = ⟨(Lib.trimS s.data.toList hexs).toArray⟩ := ⟨_, rfl⟩
    rw [← isM_trim s h, ← htr]
    have b1 : ((s.size : Int) == 64) = true := by rw [h]; rfl
    have b2 : (s.size == 64) = true := by rw [h]; rfl
    clear h
    go_enter Tryz.func31, Tryz.ntmps31
    go_wp2_with fail
    refine HTR.mono ?_
    rintro x w2 ⟨rfl, hb2⟩
    have HK2 : Hid (Same w w2) := hid (Kept.ofBelow hb2)
    rw [show (⟨(Lib.trimS s.data.toList (ByteArray.mk #[48, 49, 50, 51, 52, 53, 54, 55, 56, 57, 97, 98, 99, 100, 101, 102]).data.toList).toArray⟩ : ByteArray) = tr from htr.symm]
    clear htr hb2 HTR
    cases B4 : tr.toList.isEmpty with
    | false =>
      go_wp2_with fail
      go_ret
      exact ⟨by rw [B4]; rfl, HK2.out⟩
    | true =>
      go_wp2_with fail
      go_ret
      exact ⟨by rw [B4]; rfl, HK2.out⟩
  · have b1 : ((s.size : Int) == 64) = false := by simp; omega
    have b2 : (s.size == 64) = false := by simpa using h
    have h3 : isM s.data.toList = false := by
      unfold isM
      rw [show decide (s.data.toList.length = 64) = false from decide_eq_false (by simpa using h)]
      rfl
    rw [h3]
    clear h h3
    go_enter Tryz.func31, Tryz.ntmps31
    go_wp2_with fail
    go_ret
    exact ⟨rfl, Kept.refl _ _⟩

theorem body_sum (t : ByteArray) (u s : Int) : t ++ tx6 [46] ++ tx6 (Lib.itoa u) ++ tx6 [46] ++ tx6 (Lib.itoa s) = tx6 (bodI t u s) := by
  rw [← tx6_of t, tx6_app, tx6_app, tx6_app, tx6_app]
  congr 1
  unfold bodI
  rw [tx6_data]
  simp

set_option maxRecDepth 100000 in
set_option maxHeartbeats 400000 in
theorem body_any (w : World) (h : W6 w) (t : ByteArray) (u s : Int) (ht : t.size ≤ 1000000000) (hu : -9223372036854775808 ≤ u ∧ u ≤ 9223372036854775807) (hs : -9223372036854775808 ≤ s ∧ s ≤ 9223372036854775807) :
    Calls Tryz.prog 25 #[clV t u s] w fun e w' => e = .returned (.string (tx6 (bodI t u s))) ∧ Same w w' := by
  unfold clV
  obtain ⟨W1, hW1⟩ : ∃ W, W = w.alloc (.cells #[.string t, .int .i64 u, .int .i64 s] 23) := ⟨_, rfl⟩
  obtain ⟨xb, hxb⟩ : ∃ b, b = w.heap.size := ⟨_, rfl⟩
  have HK1 : Hid (Same w W1) := hid (by rw [hW1]; exact (Kept.refl _ w).alloc _)
  have HB : Hid (Blk W1 xb #[.string t, .int .i64 u, .int .i64 s] 23) := hid (by rw [hW1, hxb]; exact Blk.new w _ _)
  have HI : Hid (∀ n : Int, -9223372036854775808 ≤ n ∧ n ≤ 9223372036854775807 → ∀ W, Same W1 W → Calls Tryz.prog 43 #[.int .i64 n] W fun e w' => e = .returned (.string (tx6 (Lib.itoa n))) ∧ Same W w') := hid (fun n hn W hW => itoa6_any W (h.same (Same.trans HK1.out hW)) n hn.1 hn.2)
  have HL0 : Hid (∀ W, Same W1 W → (loadVar 9 ⟨xb, 0, none⟩).run Tryz.prog W = .ok (.string t) W) := hid (fun W hW => load_cell16 Tryz.underlying9 rfl ((HB.out.kept hW (fun f => f)).cell 0))
  have HL1 : Hid (∀ W, Same W1 W → (loadVar 3 ⟨xb, 1, none⟩).run Tryz.prog W = .ok (.int .i64 u) W) := hid (fun W hW => load_cell16 Tryz.underlying3 rfl ((HB.out.kept hW (fun f => f)).cell 1))
  have HL2 : Hid (∀ W, Same W1 W → (loadVar 3 ⟨xb, 2, none⟩).run Tryz.prog W = .ok (.int .i64 s) W) := hid (fun W hW => load_cell16 Tryz.underlying3 rfl ((HB.out.kept hW (fun f => f)).cell 2))
  have HU : Hid (∀ n : Int, -9223372036854775808 ≤ n ∧ n ≤ 9223372036854775807 → (tx6 (Lib.itoa n)).size ≤ 21) := hid (fun n hn => by rw [tx6_size]; exact Lib.itoa_length_le n hn.1 hn.2)
  have HZ : Hid (t.size ≤ 1000000000) := ht
  have HUU := hid hu
  have HSS := hid hs
  clear h hu hs ht
  go_enter Tryz.func25, Tryz.ntmps25
  go_wp2_with fail
  rw [← hW1, ← hxb]
  clear hW1 hxb
  refine wp_region_same (by kernel_rfl) (by kernel_rfl) ?_
  refine wpq_value rfl (.pointer (some ⟨xb, 0, none⟩)) (fun W _ => by go_simp) ?_
  simp only [Act.put, List.setIfInBounds_toArray, List.set_cons_zero, List.set_cons_succ]
  refine wpq_value rfl (.string t) (fun W hW => run_load_op _ rfl (HL0.out W hW)) ?_
  simp only [Act.put, List.setIfInBounds_toArray, List.set_cons_zero, List.set_cons_succ]
  refine wpq_value rfl (.string (t ++ tx6 [46])) (fun W _ => run_add_op rfl rfl (by have := HZ.out; rw [tx6_size]; simp; omega)) ?_
  simp only [Act.put, List.setIfInBounds_toArray, List.set_cons_zero, List.set_cons_succ]
  refine wpq_value rfl (.pointer (some ⟨xb, 1, none⟩)) (fun W _ => by go_simp) ?_
  simp only [Act.put, List.setIfInBounds_toArray, List.set_cons_zero, List.set_cons_succ]
  refine wpq_value rfl (.int .i64 u) (fun W hW => run_load_op _ rfl (HL1.out W hW)) ?_
  simp only [Act.put, List.setIfInBounds_toArray, List.set_cons_zero, List.set_cons_succ]
  refine wpq_call rfl 43 #[.int .i64 u] (.string (tx6 (Lib.itoa u))) (fun W => by go_simp) (calls_same (HI.out u HUU.out)) ?_
  simp only [Act.put, List.setIfInBounds_toArray, List.set_cons_zero, List.set_cons_succ]
  refine wpq_value rfl (.string (t ++ tx6 [46] ++ tx6 (Lib.itoa u))) (fun W _ => run_add_op rfl rfl (by have := HZ.out; have := HU.out u HUU.out; rw [ByteArray.size_append, tx6_size [46]]; simp; omega)) ?_
  simp only [Act.put, List.setIfInBounds_toArray, List.set_cons_zero, List.set_cons_succ]
  refine wpq_value rfl (.string (t ++ tx6 [46] ++ tx6 (Lib.itoa u) ++ tx6 [46])) (fun W _ => run_add_op rfl rfl (by have := HZ.out; have := HU.out u HUU.out; rw [ByteArray.size_append, ByteArray.size_append, tx6_size [46]]; simp; omega)) ?_
  simp only [Act.put, List.setIfInBounds_toArray, List.set_cons_zero, List.set_cons_succ]
  refine wpq_value rfl (.pointer (some ⟨xb, 2, none⟩)) (fun W _ => by go_simp) ?_
  simp only [Act.put, List.setIfInBounds_toArray, List.set_cons_zero, List.set_cons_succ]
  refine wpq_value rfl (.int .i64 s) (fun W hW => run_load_op _ rfl (HL2.out W hW)) ?_
  simp only [Act.put, List.setIfInBounds_toArray, List.set_cons_zero, List.set_cons_succ]
  refine wpq_call rfl 43 #[.int .i64 s] (.string (tx6 (Lib.itoa s))) (fun W => by go_simp) (calls_same (HI.out s HSS.out)) ?_
  simp only [Act.put, List.setIfInBounds_toArray, List.set_cons_zero, List.set_cons_succ]
  refine wpq_value rfl (.string (tx6 (bodI t u s))) (fun W _ => by rw [← body_sum]; exact run_add_op rfl rfl (by have := HZ.out; have := HU.out u HUU.out; have := HU.out s HSS.out; rw [ByteArray.size_append, ByteArray.size_append, ByteArray.size_append, tx6_size [46]]; simp; omega)) ?_
  simp only [Act.put, List.setIfInBounds_toArray, List.set_cons_zero, List.set_cons_succ]
  refine wpq_value rfl (.string (tx6 (bodI t u s))) (fun W _ => rfl) ?_
  simp only [Act.put, List.setIfInBounds_toArray, List.set_cons_zero, List.set_cons_succ]
  refine wpQuiet_nil ?_
  intro w9 hk9
  have HK9 : Hid (Same w w9) := hid (Same.trans HK1.out hk9)
  clear hk9
  go_wp2_with fail
  go_ret
  exact ⟨rfl, HK9.out⟩

end Go.Proofs.YtfhfnkhiomahfaaGreatDoor
