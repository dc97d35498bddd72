/-
  The law HuffRound, walked: codes that are laid are read again.
-/
import Derived.Test.YtddjbofdepamhaaHArgs
namespace Go.Proofs.Ytddjbofdepamhaa
open Go.RowKit

/-- The number that codes make, one behind the other, and how many bits they have. -/
def numC (ns : List Nat) : List Nat → Nat
  | [] => 0
  | s :: r => cdOf ns s + 2 ^ key ns s * numC ns r
def bitC (ns : List Nat) : List Nat → Nat
  | [] => 0
  | s :: r => key ns s + bitC ns r

theorem bitC_app (ns l r : List Nat) : bitC ns (l ++ r) = bitC ns l + bitC ns r := by
  induction l with
  | nil => simp [bitC]
  | cons a l ih => simp only [List.cons_append, bitC, ih]; omega

theorem numC_app (ns l r : List Nat) : numC ns (l ++ r) = numC ns l + 2 ^ bitC ns l * numC ns r := by
  induction l with
  | nil => simp [numC, bitC]
  | cons a l ih => simp only [List.cons_append, numC, bitC, ih, Nat.pow_add, Nat.mul_add, Nat.mul_assoc]; omega

theorem cdOf_lt (ns : List Nat) (s : Nat) : cdOf ns s < 2 ^ key ns s := by
  unfold cdOf
  split
  · exact Nat.two_pow_pos _
  · exact rv_lt _ _

theorem numC_lt (ns l : List Nat) : numC ns l < 2 ^ bitC ns l := by
  induction l with
  | nil => simp [numC, bitC]
  | cons a l ih =>
    simp only [numC, bitC, Nat.pow_add]
    have h1 := cdOf_lt ns a
    have h2 : 2 ^ key ns a * (numC ns l + 1) ≤ 2 ^ key ns a * 2 ^ bitC ns l := Nat.mul_le_mul_left _ ih
    rw [Nat.mul_add] at h2
    omega

theorem numC_rest (ns l r : List Nat) : numC ns (l ++ r) / 2 ^ bitC ns l = numC ns r := by
  rw [numC_app, Nat.add_mul_div_left _ _ (Nat.two_pow_pos _), Nat.div_eq_of_lt (numC_lt ns l), Nat.zero_add]

theorem bitC_le (ns l : List Nat) (h : ∀ s, key ns s ≤ 15) : bitC ns l ≤ 15 * l.length := by
  induction l with
  | nil => simp [bitC]
  | cons a l ih => have := h a; simp only [bitC, List.length_cons]; omega

theorem code_lt {ns : List Nat} {s : Nat} (hm : measure ns ≤ 32768) (hs : s ∈ ris ns) (h15 : key ns s ≤ 15) : codeOf ns s < 2 ^ key ns s := by
  obtain ⟨k, hk, _, _, a2⟩ := place_of hs
  have h1 := sumTo_mono ns (k + 1)
  have h2 := code_start ns s
  have h3 : (codeOf ns s + 1) * 2 ^ (15 - key ns s) ≤ 2 ^ key ns s * 2 ^ (15 - key ns s) := by
    rw [Nat.add_mul, Nat.one_mul, ← Nat.pow_add, show key ns s + (15 - key ns s) = 15 by omega, show (2 : Nat) ^ 15 = 32768 by decide]
    omega
  have := Nat.le_of_mul_le_mul_right h3 (Nat.two_pow_pos _)
  omega

/-- The code of a symbol that comes first fits. -/
theorem numC_fits {ns : List Nat} {s : Nat} (r : List Nat) (hm : measure ns ≤ 32768) (hs : s ∈ ris ns) (h15 : key ns s ≤ 15) : rv (key ns s) (numC ns (s :: r)) = codeOf ns s := by
  have h1 : numC ns (s :: r) % 2 ^ key ns s = cdOf ns s := by
    simp only [numC]
    rw [Nat.add_mul_mod_self_left, Nat.mod_eq_of_lt (cdOf_lt ns s)]
  rw [← rv_mod (key ns s) (key ns s) (numC ns (s :: r)) (Nat.le_refl _), h1, cdOf, if_neg (mem_ris.1 hs).2, rv_rv, Nat.mod_eq_of_lt (code_lt hm hs h15)]

/-- Rows of bytes and rows of ints lie apart. -/
theorem NRow.apartB {B : Nat} {w : World} {v v' : Value} {bs : List Nat} {xs : List Nat} (h : Row w v bs) (h' : NRow B w v' xs) {j g : Nat} (hj : v.ownBlock = some j) (hg : v'.ownBlock = some g) : j ≠ g := by
  rintro rfl
  rcases h.2 with ⟨rfl, _⟩ | ⟨g1, c1, cur1, rfl, _, e1, _⟩
  · simp [Value.ownBlock] at hj
  · rcases h'.2 with ⟨rfl, _⟩ | ⟨g2, c2, cur2, rfl, _, e2, _⟩
    · simp [Value.ownBlock] at hg
    · simp [Value.ownBlock] at hj hg
      subst hj hg
      rw [e1] at e2
      simp at e2

theorem Wr.row {w : World} {p : Nat} {s : Value} {X c : Nat} (h : Wr w p s X c) : ∃ bs, Row w s bs := by
  obtain ⟨bs, h1, _⟩ := h.ex
  exact ⟨bs, h1.row⟩

/-- What holds while codes are laid. -/
structure LayC (w2 w' : World) (p : Nat) (s v : Value) (ns ls : List Nat) : Prop where
  lay : Wr w' p s (numC ns ls) (bitC ns ls)
  fp : ∀ k, Fp p s k → w2.heap.size ≤ k
  pb : p < w2.heap.size + 1
  row : NRow (w2.heap.size + 1) w' v ls
  same : Same w2 w'
  used : ∀ x ∈ ls, x ∈ ris ns

set_option maxRecDepth 100000 in
set_option maxHeartbeats 4000000 in
theorem round_good (W : World) (v u : Value) (zs ys : List Int) (ns : List Nat) (len ylen : Nat) (hs : SrcE intV W (fun k => k < W.heap.size) v zs) (hl : zs.length = len) (hy : SrcE intV W (fun k => k < W.heap.size) u ys) (hyl : ys.length = ylen) (hylong : ylen ≤ 5000) (hg : Good zs ns) (hb : chk zs = 0) :
    Calls Try.prog 6 #[v, u] W fun e w' => e = .returned (.bool true) ∧ Below W.heap.size W w' := by
  have HC := codes_good W v _ zs ns hs hg hb
  obtain ⟨av, capv, hvv, hx1, hx2⟩ := id hs
  obtain ⟨au, capu, hvu, hx3, hx4⟩ := id hy
  clear hx1 hx2 hx3 hx4
  subst hvv hvu
  have HG : Hid (Good zs ns ∧ chk zs = 0) := ⟨hg, hb⟩
  have HSZ : Hid (SrcE intV W (fun k => k < W.heap.size) (.slice av zs.length capv) zs) := hs
  have HS : Hid (SrcE natV W (fun k => k < W.heap.size) (.slice av zs.length capv) ns) := hid (hs.recode hg.eq)
  have HY : Hid (SrcE intV W (fun k => k < W.heap.size) (.slice au ys.length capu) ys) := hy
  have hl288 : len ≤ 288 := by have := hg.len; have := hg.max; omega
  have HNL : Hid (ns.length = len) := hid (by rw [hg.len, hl])
  have HYL : Hid (ys.length = ylen) := hyl
  have b1 : decide ((5000 : Int) < (len : Int)) = false := by simp; omega
  have b2 : decide ((5000 : Int) < (ylen : Int)) = false := by simp; omega
  rw [hl] at HC HS HSZ ⊢
  rw [hyl] at HY ⊢
  clear hs hy hl hyl hg hb
  go_enter Try.func6, Try.ntmps6
  go_wp2_with fail
  refine HC.mono ?_
  rintro e w1 ⟨⟨g1, n1, cap1, rfl, hr1⟩, hk1⟩
  have hn1 := hr1.len
  rw [codesL_length, HNL.out] at hn1
  subst hn1
  have HR1 : Hid (WRow 0 w1 (.slice (some ⟨g1, 0, none⟩) len cap1) (codesL ns)) := hid (RowE.base hr1 (Nat.zero_le _))
  have HK1 : Hid (Same W w1) := hk1
  have HC2 := new_good w1 _ _ zs ns (HSZ.out.same hk1) HG.out.1 HG.out.2
  clear hr1 hk1 HC
  go_wp2_with fail
  refine HC2.mono ?_
  rintro e w2 ⟨⟨d, vc, vs, rfl, hd2, _⟩, hk2⟩
  have HD2 : Hid (Dec w2 d vc vs ns) := hd2
  have HK2 : Hid (Same W w2) := hid (Same.trans HK1.out hk2)
  have HR2 : Hid (WRow 0 w2 (.slice (some ⟨g1, 0, none⟩) len cap1) (codesL ns)) := hid (HR1.out.same hk2)
  have HC3 := newWriter_any w2
  clear hd2 hk2 HC2 HR1 HK1
  go_wp2_with fail
  refine HC3.mono ?_
  rintro e w3 ⟨rfl, hw3, hk3, hz3⟩
  have HL3 : Hid (LayC w2 w3 w2.heap.size (.slice none 0 0) (.slice none 0 0) ns []) := hid ⟨hw3, fun k hk => by
      rcases hk with rfl | hk
      · exact Nat.le_refl _
      · simp [Value.ownBlock] at hk, by omega, RowE.nil, hk3, by simp⟩
  clear hw3 hk3 HC3 hz3
  go_wp2_with fail
  go_loopg [10, 11] ylen (fun q zl zi wr => ∃ (i : Nat) (s : Value) (ls : List Nat), ylen - i ≤ q ∧ i ≤ ylen ∧ zi = .int .i64 (i : Nat) ∧ ls.length ≤ i ∧ Hid (LayC w2 wr w2.heap.size s zl ns ls))
  case atStart => exact ⟨0, .slice none 0 0, [], by omega, by omega, rfl, by simp, HL3⟩
  case round =>
    obtain ⟨i, s, ls, hq, hi, rfl, hls, HLC⟩ := hrel
    clear HL3
    by_cases hlt : i < ylen
    · obtain ⟨bu, ou, cu, eu, _, _, cy⟩ := ((HY.out.same HK2.out).same HLC.out.same).get i (by have := HYL.out; omega)
      simp only [Value.slice.injEq] at eu
      obtain ⟨rfl, hxe, rfl⟩ := eu
      clear hxe
      obtain ⟨y, hyy⟩ : ∃ y, y = ys[i]'(by have := HYL.out; omega) := ⟨_, rfl⟩
      rw [← hyy] at cy
      unfold intV at cy
      clear hyy
      by_cases hy0 : 0 ≤ y
      · by_cases hyl : y < (len : Int)
        · obtain ⟨sy, hsy⟩ : ∃ sy : Nat, y = (sy : Nat) := ⟨y.toNat, by omega⟩
          subst hsy
          have hsl : sy < len := by omega
          have hsn : sy < ns.length := by have := HNL.out; omega
          obtain ⟨bv, ov, cv, ev, _, _, ck⟩ := ((HS.out.same HK2.out).same HLC.out.same).get sy hsn
          simp only [Value.slice.injEq] at ev
          obtain ⟨rfl, hxe, rfl⟩ := ev
          clear hxe
          rw [← key_get hsn] at ck
          unfold natV at ck
          have e1 : decide ((0 : Int) ≤ ((sy : Nat) : Int)) = true := by simp
          have e2 : decide (sy < len) = true := by simp [hsl]
          by_cases hk0 : key ns sy = 0
          · rw [hk0] at ck
            clear hk0 hyl hy0
            go_wp2_with fail
            go_roundg (gk - 1)
            case measure => omega
            case rel => exact ⟨i + 1, s, ls, by omega, by omega, by go_num, by omega, HLC⟩
          · have hk15 : key ns sy ≤ 15 := HG.out.1.key_le sy
            have hmem : sy ∈ ris ns := mem_ris.2 ⟨hsn, hk0⟩
            have cc := (HR2.out.same HLC.out.same).cell sy (by rw [codesL_length]; exact hsn)
            have ecd : (codesL ns)[sy]'(by rw [codesL_length]; exact hsn) = cdOf ns sy := by simp [codesL]
            rw [ecd] at cc
            unfold wordV at cc
            have hcl := cdOf_lt ns sy
            have hbl := bitC_le ns ls (fun x => HG.out.1.key_le x)
            have HP := put_good w2.heap.size (cdOf ns sy) (key ns sy) (numC ns ls) (bitC ns ls) s wr (by omega) hcl HLC.out.lay (by omega)
            have HPq := fun q => put_good w2.heap.size (cdOf ns sy) (key ns sy) (numC ns ls) (bitC ns ls) s (wr.drewN q) (by omega) hcl (HLC.out.lay.kept ((Kept.refl (fun _ => False) wr).drewN q) (fun _ _ h => h)) (by omega)
            have HPd := put_good w2.heap.size (cdOf ns sy) (key ns sy) (numC ns ls) (bitC ns ls) s wr.drew (by omega) hcl (HLC.out.lay.kept ((Kept.refl (fun _ => False) wr).drew) (fun _ _ h => h)) (by omega)
            have HNX : Hid (numC ns (ls ++ [sy]) = numC ns ls + cdOf ns sy * 2 ^ bitC ns ls ∧ bitC ns (ls ++ [sy]) = bitC ns ls + key ns sy ∧ sy ∈ ris ns) := hid ⟨by rw [numC_app]; simp [numC, Nat.mul_comm], by rw [bitC_app]; simp [bitC], hmem⟩
            obtain ⟨kk, hkk⟩ : ∃ kk, kk = key ns sy := ⟨_, rfl⟩
            obtain ⟨cd, hcd⟩ : ∃ cd, cd = cdOf ns sy := ⟨_, rfl⟩
            rw [← hkk] at ck HP HPq HPd HNX hk0 hk15
            rw [← hcd] at cc HP HPq HPd HNX
            have hkp : 0 < kk := by omega
            clear hkk hcd hcl hmem ecd hk0 hyl hy0
            generalize numC ns ls = X at *
            generalize bitC ns ls = cb at *
            go_wp2_with fail
            go_region_with (go_at_call 27; refine HPd.mono ?_; rintro e w4 ⟨rfl, s4, hw4, hk4, hg4⟩)
            all_goals
              have HW4 : Hid (Wr w4 w2.heap.size s4 (numC ns (ls ++ [sy])) (bitC ns (ls ++ [sy]))) := hid (by rw [HNX.out.1, HNX.out.2.1]; exact hw4)
              have hk4' : Kept (Fp w2.heap.size s) wr w4 := Kept.undrew hk4
              obtain ⟨rb, hrb⟩ := HLC.out.lay.row
              have HR4 : Hid (NRow (w2.heap.size + 1) w4 u10 ls) := hid (HLC.out.row.kept hk4' (fun j hj f => by
                rcases f with f | f
                · have := HLC.out.row.ge hj; omega
                · exact NRow.apartB hrb HLC.out.row f hj rfl))
              have HK4 : Hid (Same w2 w4) := hid (Same.then HLC.out.same hk4' (fun x hx f => by have := HLC.out.fp x f; omega))
              have HF4 : Hid (∀ k, Fp w2.heap.size s4 k → w2.heap.size ≤ k) := hid (by
                rintro k (rfl | hk)
                · exact Nat.le_refl _
                · rcases hg4 with e | e
                  · exact HLC.out.fp k (.inr (by rw [← e]; exact hk))
                  · have h1 := e k hk
                    have h2 : wr.heap.size ≤ k := h1
                    have h3 := HLC.out.same.size
                    omega)
              have HLL : Hid (ls.length + [sy].length ≤ 1000000000) := hid (by simp; omega)
              have hsz4 := HK4.out.size
              have hz4 : w2.heap.size < w4.heap.size := Wr.fp_lt HW4.out (.inl rfl)
              clear hw4 hk4 hk4' hg4 hrb
              go_wp2_with (at_builtin; refine wpList_append_e _ natV natV_one (w2.heap.size + 1) 22 3 (natV 0) 8 Try.underlying22 Try.infoN rfl (by decide) rfl (.tmp 78) (.tmp 80) rfl u10 ls rfl (World.ownsRow.alloc HR4.out _) ⟨w4.heap.size, 0, none⟩ 1 1 [sy] rfl rfl (cellsAt_new _ _ _) HLL.out (by simp; omega) ?_; intro v5 w5 hrow hgr)
              have hk5 : Kept (fun j => u10.ownBlock = some j) w4 w5 := Kept.grown ((Kept.refl _ w4).alloc _) hgr (fun j e => .inl e)
              obtain ⟨rb4, hrb4⟩ := HW4.out.row
              have HL5 : Hid (LayC w2 w5 w2.heap.size s4 v5 ns (ls ++ [sy])) := hid (by
                refine ⟨HW4.out.kept hk5 (fun j hj f => ?_), HF4.out, by omega, hrow, Same.then HK4.out hk5 (fun x hx f => by have := HR4.out.ge f; omega), ?_⟩
                · rcases hj with rfl | hj
                  · have := HR4.out.ge f; omega
                  · exact NRow.apartB hrb4 HR4.out hj f rfl
                · intro x hx
                  rcases List.mem_append.1 hx with hx | hx
                  · exact HLC.out.used x hx
                  · have : x = sy := by simpa using hx
                    rw [this]; exact HNX.out.2.2)
              clear hrow hgr hk5 hrb4 HW4 HR4 HK4
              go_wp2_with fail
              go_roundg (gk - 1)
              case measure => omega
              case rel => exact ⟨i + 1, s4, ls ++ [sy], by omega, by omega, by go_num, by simp; omega, HL5⟩
        · have e1 : decide ((0 : Int) ≤ y) = true := by simp; omega
          have e2 : decide (y < (len : Int)) = false := by simp; omega
          clear hyl hy0
          go_wp2_with fail
          go_roundg (gk - 1)
          case measure => omega
          case rel => exact ⟨i + 1, s, ls, by omega, by omega, by go_num, by omega, HLC⟩
      · have e1 : decide ((0 : Int) ≤ y) = false := by simp; omega
        clear hy0
        go_wp2_with fail
        go_roundg (gk - 1)
        case measure => omega
        case rel => exact ⟨i + 1, s, ls, by omega, by omega, by go_num, by omega, HLC⟩
    · have hbl := bitC_le ns ls (fun x => HG.out.1.key_le x)
      have HBY := wbytes_any w2.heap.size (numC ns ls) (bitC ns ls) s wr HLC.out.lay (by omega)
      go_wp2_with fail
      refine HBY.mono ?_
      rintro e w5 ⟨g5, bs, rfl, hr5, hb5, hn5, hl5, hk5, _⟩
      have hbsl : bs.length ≤ 100000 := by rw [hl5]; omega
      have HRD := newReader_any _ _ bs w5 (Src.ofRow hr5) (by omega) hb5
      have HBS : Hid (n256 bs = numC ns ls ∧ bs.length = (bitC ns ls + 7) / 8) := ⟨hn5, hl5⟩
      have HK5 : Hid (Same wr w5) := hk5
      clear hr5 hb5 hn5 hl5 hk5 HBY
      go_wp2_with fail
      refine HRD.mono ?_
      rintro e w6 ⟨pr, sr, rfl, hst6, hk6, hf6⟩
      obtain ⟨al, cl, hvl, _⟩ := HLC.out.row.shape
      subst hvl
      have HST : Hid (St w6 pr sr bs 0) := hst6
      have HK6 : Hid (Same w2 w6) := hid (Same.trans HLC.out.same (Same.trans HK5.out hk6))
      have HD6 : Hid (Dec w6 d vc vs ns) := hid (HD2.out.kept HK6.out (fun _ _ h => h))
      have HRL : Hid (NRow (w2.heap.size + 1) w6 (.slice al ls.length cl) ls) := hid ((HLC.out.row.same HK5.out).same hk6)
      have hsz6 := HK6.out.size
      have hs5 := HK5.out.size
      have hs2 := HLC.out.same.size
      have HFP : Hid (∀ k, DF d vc vs k → ¬ Fp pr sr k) := hid (fun k hk h => by
        have h1 := HD2.out.lt hk
        have h2 := hf6 k h
        omega)
      have HFL : Hid (∀ k, (Value.slice al ls.length cl).ownBlock = some k → k ≠ pr) := hid (fun k hk e => by
        have h1 := HLC.out.row.lt hk
        have h2 := hf6 pr (.inl rfl)
        omega)
      have hpr : w2.heap.size ≤ pr := by have h2 := hf6 pr (.inl rfl); omega
      have HUS : Hid (∀ x ∈ ls, x ∈ ris ns) := hid HLC.out.used
      have hll : ls.length ≤ 5000 := by omega
      clear hst6 hk6 hf6 HRD HLC hq hi hlt
      obtain ⟨ll, hlle⟩ : ∃ ll, ll = ls.length := ⟨_, rfl⟩
      rw [← hlle] at HRL HFL hll ⊢
      have HLL : Hid (ll = ls.length) := hlle
      clear hlle
      go_wp2_with fail
      go_loopg [14] ll (fun q zj wx => ∃ (j : Nat), ll - j ≤ q ∧ j ≤ ll ∧ zj = .int .i64 (j : Nat) ∧ Hid (St wx pr sr bs (bitC ns (ls.take j))) ∧ Hid (Kept (· = pr) w6 wx))
      case atStart => exact ⟨0, by omega, by omega, rfl, hid (by simpa [bitC] using HST.out), Kept.refl _ _⟩
      case round =>
        obtain ⟨j, hq, hj, rfl, HSJ, HKJ⟩ := hrel
        clear HST
        have hsplit : bitC ns ls = bitC ns (ls.take j) + bitC ns (ls.drop j) := by rw [← bitC_app, List.take_append_drop]
        have hcl : bitC ns (ls.take j) ≤ 8 * bs.length := by have := HBS.out.2; omega
        by_cases hlt : j < ll
        · have hjl : j < ls.length := by have := HLL.out; omega
          obtain ⟨sy, hsy⟩ : ∃ sy, sy = ls[j] := ⟨_, rfl⟩
          have hdrop : ls.drop j = sy :: ls.drop (j + 1) := by rw [List.drop_eq_getElem_cons hjl, hsy]
          have hmem : sy ∈ ris ns := HUS.out sy (by rw [hsy]; exact List.getElem_mem _)
          have hnum : n256 bs / 2 ^ bitC ns (ls.take j) = numC ns (sy :: ls.drop (j + 1)) := by
            have e1 : numC ns ls = numC ns (ls.take j ++ ls.drop j) := by rw [List.take_append_drop]
            rw [HBS.out.1, e1, numC_rest, hdrop]
          have hk15 : ∀ x, key ns x ≤ 15 := fun x => HG.out.1.key_le x
          have hbd : bitC ns (ls.drop j) = key ns sy + bitC ns (ls.drop (j + 1)) := by rw [hdrop]; rfl
          have HN := next_is wr d vc vs ns pr (bitC ns (ls.take j)) sr bs (HD6.out.kept HKJ.out (fun k hk e => HFP.out k hk (.inl e))) (mx_le ns 15 HG.out.1.le) HG.out.1.max HSJ.out hcl (by omega) HFP.out sy hmem (by have := HBS.out.2; omega) (by rw [hnum]; exact numC_fits _ HG.out.1.measure_le hmem (hk15 sy))
          have cj := (HRL.out.kept HKJ.out (fun k hk e => HFL.out k hk e))
          obtain ⟨b3, o3, cap3, e3, _, _, c3⟩ := (SrcE.ofRow cj).get j hjl
          rw [← HLL.out] at e3
          simp only [Value.slice.injEq] at e3
          obtain ⟨rfl, hxe, rfl⟩ := e3
          clear hxe
          rw [← hsy] at c3
          unfold natV at c3
          have HBT : Hid (bitC ns (ls.take (j + 1)) = bitC ns (ls.take j) + key ns sy) := hid (by rw [List.take_succ_eq_append_getElem hjl, bitC_app, ← hsy]; simp [bitC])
          clear hsy hdrop hmem hnum hbd hsplit cj
          go_wp2_with fail
          refine HN.mono ?_
          rintro e w8 ⟨rfl, hst8, hk8⟩
          have c8 := hk8.cell c3 (fun e => HFL.out b3 rfl e)
          have HS8 : Hid (St w8 pr sr bs (bitC ns (ls.take (j + 1)))) := hid (by rw [HBT.out]; exact hst8)
          have HK8 : Hid (Kept (· = pr) w6 w8) := hid (HKJ.out.trans hk8 (fun _ _ h => h) (fun _ _ h => h))
          have hdd : ((sy : Int) != (sy : Int)) = false := by simp
          clear hst8 hk8 HN
          go_wp2_with fail
          go_roundg (gk - 1)
          case measure => omega
          case rel => exact ⟨j + 1, by omega, by omega, by go_num, HS8, HK8⟩
        · have hjl : j = ll := by omega
          have htk : ls.take j = ls := List.take_of_length_le (by have := HLL.out; omega)
          have HS9 : Hid (St wr pr sr bs (bitC ns ls)) := hid (by have h := HSJ.out; rw [htk] at h; exact h)
          have HA := awake_any wr
          clear HSJ hsplit hcl htk hjl
          go_wp2_with fail
          refine HA.mono ?_
          rintro e w9 ⟨rfl, hk9⟩
          have hcb : bitC ns ls ≤ 8 * bs.length := by have := HBS.out.2; omega
          have HLF := left_any pr (bitC ns ls) sr bs w9 (HS9.out.kept hk9 (fun _ _ h => h)) hcb (by omega)
          have HK9 : Hid (Same W w9) := hid (Same.trans (Same.then (Same.trans HK2.out HK6.out) HKJ.out (fun x hx e => by have := HK2.out.size; omega)) hk9)
          obtain ⟨lf', hlf⟩ : ∃ lf', lf' = 8 * bs.length - bitC ns ls := ⟨_, rfl⟩
          rw [← hlf] at HLF
          have hl8 : decide ((lf' : Int) < 8) = true := by have := HBS.out.2; simp; omega
          clear hk9 HA hlf hcb
          go_wp2_with fail
          refine HLF.mono ?_
          rintro e w10 ⟨rfl, mm, rfl⟩
          clear HLF
          go_wp2_with fail
          go_ret
          exact ⟨rfl, Same.bel (HK9.out.drewN mm)⟩

theorem round_bad (W : World) (v u : Value) (zs : List Int) (ylen : Nat) (a b : Option Addr) (ca cb len : Nat) (hs : SrcE intV W (fun k => k < W.heap.size) v zs) (hl : zs.length = len) (hlong : len ≤ 5000) (hylong : ylen ≤ 5000) (hv : v = .slice a len ca) (hu : u = .slice b ylen cb) (hb : chk zs ≠ 0) :
    Calls Try.prog 6 #[v, u] W fun e w' => e = .returned (.bool true) ∧ Below W.heap.size W w' := by
  have HC := codes_bad W v _ zs hs (by omega) hb
  have HS : Hid (SrcE intV W (fun k => k < W.heap.size) v zs) := hs
  have HB : Hid (chk zs ≠ 0 ∧ zs.length ≤ 5000) := hid ⟨hb, by omega⟩
  obtain ⟨c, hc⟩ : ∃ c, c = chk zs := ⟨_, rfl⟩
  rw [← hc] at HC hb
  have HCC : Hid (c = chk zs) := hc
  have hd : ((c : Int) != 0) = true := by simp; omega
  have hd2 : ((c : Int) != (c : Int)) = false := by simp
  have b1 : decide ((5000 : Int) < (len : Int)) = false := by simp; omega
  have b2 : decide ((5000 : Int) < (ylen : Int)) = false := by simp; omega
  subst hv hu
  clear hs hc hb hl
  go_enter Try.func6, Try.ntmps6
  go_wp2_with fail
  refine HC.mono ?_
  rintro e w1 ⟨rfl, hk⟩
  have HK : Hid (Same W w1) := hk
  have HN := new_bad w1 _ _ zs (HS.out.same hk) (by have := HB.out.2; omega) HB.out.1
  rw [← HCC.out] at HN
  clear hk HC
  go_wp2_with fail
  refine HN.mono ?_
  rintro e w2 ⟨rfl, hk2⟩
  have HK2 : Hid (Same W w2) := hid (Same.trans HK.out hk2)
  have HA := awake_any w2
  clear hk2 HN
  go_wp2_with fail
  refine HA.mono ?_
  rintro e w3 ⟨rfl, hk3⟩
  have HK3 : Hid (Same W w3) := hid (Same.trans HK2.out hk3)
  clear hk3 HA
  go_wp2_with fail
  go_ret
  exact ⟨rfl, HK3.out.bel⟩

theorem huffRound_all (a : Option Addr) (len cap : Nat) (zs : List Int) (b : Option Addr) (ylen ycap : Nat) (ys : List Int) (W : World) (h : IsRow .i64 W a len cap zs) (h2 : IsRow .i64 W b ylen ycap ys) :
    Calls Try.prog 6 #[.slice a len cap, .slice b ylen ycap] W fun e w' => e = .returned (.bool true) ∧ Below W.heap.size W w' := by
  obtain ⟨hs, hl⟩ := h.ints
  obtain ⟨hs2, hl2⟩ := h2.ints
  clear h h2
  by_cases hlong : 5000 < len
  · have b1 : decide ((5000 : Int) < (len : Int)) = true := by simp; omega
    clear hlong hl hs hs2 hl2
    go_enter Try.func6, Try.ntmps6
    go_wp2_with fail
    go_ret
    exact ⟨rfl, Below.refl _ _⟩
  · by_cases hylong : 5000 < ylen
    · have b1 : decide ((5000 : Int) < (len : Int)) = false := by simp; omega
      have b2 : decide ((5000 : Int) < (ylen : Int)) = true := by simp; omega
      clear hlong hylong hl hs hs2 hl2
      go_enter Try.func6, Try.ntmps6
      go_wp2_with fail
      go_ret
      exact ⟨rfl, Below.refl _ _⟩
    · by_cases hb : chk (zs.take len) = 0
      · exact round_good W _ _ _ _ _ len ylen hs hl hs2 hl2 (by omega) (good_of hb) hb
      · exact round_bad W _ _ _ ylen a b cap ycap len hs hl (by omega) (by omega) rfl rfl hb

end Go.Proofs.Ytddjbofdepamhaa
