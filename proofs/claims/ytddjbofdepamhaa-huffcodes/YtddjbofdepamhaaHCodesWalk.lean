/-
  The law HuffCodes, walked.
-/
import Derived.Test.YtddjbofdepamhaaHRCodes
namespace Go.Proofs.Ytddjbofdepamhaa
open Go.RowKit

set_option maxRecDepth 100000 in
set_option maxHeartbeats 2000000 in
theorem codesLaw_bad (W : World) (a : Option Addr) (len cap : Nat) (zs : List Int) (hs : SrcE intV W (fun k => k < W.heap.size) (.slice a len cap) zs) (hl : zs.length = len) (hlong : len ≤ 5000) (hb : chk zs ≠ 0) :
    Calls Try.prog 3 #[.slice a len cap] W fun e w' => e = .returned (.bool true) ∧ Below W.heap.size W w' := by
  have HLE := lent_any W _ _ zs hs (by omega)
  have HS : Hid (SrcE intV W (fun k => k < W.heap.size) (.slice a len cap) zs) := hs
  have HB : Hid (chk zs ≠ 0 ∧ zs.length ≤ 5000) := hid ⟨hb, by omega⟩
  obtain ⟨c, hc⟩ : ∃ c, c = chk zs := ⟨_, rfl⟩
  have HC : Hid (c = chk zs) := hc
  have hd : ((c : Int) != (c : Int)) = false := by simp
  have b1 : decide ((5000 : Int) < (len : Int)) = false := by simp; omega
  rw [hl] at HLE
  have HL : Hid (zs.length = len) := hl
  clear hs hb hc hl
  go_enter Try.func3, Try.ntmps3
  go_wp2_with fail
  refine HLE.mono ?_
  rintro e w1 ⟨g, rfl, hL1, hk1, hgb, _⟩
  have HL1 : Hid (Lent w1 g zs) := hL1
  have HK1 : Hid (Same W w1) := hk1
  have HCH := check_any w1 _ _ zs hL1.src (by have := HB.out.2; omega)
  rw [← HC.out, HL.out] at HCH
  clear hL1 hk1 HLE
  go_wp2_with fail
  refine HCH.mono ?_
  rintro e w2 ⟨rfl, hk2⟩
  have HL2 : Hid (Lent w2 g zs) := hid (HL1.out.kept hk2 (fun h => h))
  have HK2 : Hid (Same W w2) := hid (Same.trans HK1.out hk2)
  have HCO := codes_bad w2 _ _ zs HL2.out.src (by have := HB.out.2; omega) HB.out.1
  rw [← HC.out, HL.out] at HCO
  clear hk2 HCH
  go_wp2_with fail
  refine HCO.mono ?_
  rintro e w3 ⟨rfl, hk3⟩
  have HL3 : Hid (Lent w3 g zs) := hid (HL2.out.kept hk3 (fun h => h))
  have HK3 : Hid (Same W w3) := hid (Same.trans HK2.out hk3)
  have HRC := rcodes_bad w3 _ _ zs (HS.out.same HK3.out) (by have := HB.out.2; omega) HB.out.1
  rw [← HC.out] at HRC
  clear hk3 HCO
  go_wp2_with fail
  refine HRC.mono ?_
  rintro e w4 ⟨rfl, hk4⟩
  have HL4 : Hid (Lent w4 g zs) := hid (HL3.out.kept hk4 (fun h => h))
  have HK4 : Hid (Same W w4) := hid (Same.trans HK3.out hk4)
  have HBK := back_any w4 g _ _ zs HL4.out (HS.out.same HK4.out) (by have := HB.out.2; omega)
  rw [HL.out] at HBK
  clear hk4 HRC
  go_wp2_with fail
  refine HBK.mono ?_
  rintro e w5 ⟨rfl, hk5⟩
  have HK5 : Hid (Same W w5) := hid (Same.trans HK4.out hk5)
  clear hk5 HBK
  go_wp2_with fail
  go_loopg [9] 1 (fun _ z wr => z = .int .i64 0 ∧ wr = w5)
  case atStart => exact ⟨rfl, rfl⟩
  case round =>
    obtain ⟨rfl, rfl⟩ := hrel
    have HA := awake_any wr
    go_wp2_with fail
    refine HA.mono ?_
    rintro e w6 ⟨rfl, hk6⟩
    have HK6 : Hid (Same W w6) := hid (Same.trans HK5.out hk6)
    clear hk6 HA
    go_wp2_with fail
    go_ret
    exact ⟨rfl, HK6.out.bel⟩

set_option maxRecDepth 100000 in
set_option maxHeartbeats 4000000 in
theorem codesLaw_good (W : World) (a : Option Addr) (len cap : Nat) (zs : List Int) (ns : List Nat) (hs : SrcE intV W (fun k => k < W.heap.size) (.slice a len cap) zs) (hl : zs.length = len) (hlong : len ≤ 5000) (hg : Good zs ns) (hb : chk zs = 0) :
    Calls Try.prog 3 #[.slice a len cap] W fun e w' => e = .returned (.bool true) ∧ Below W.heap.size W w' := by
  have HLE := lent_any W _ _ zs hs (by omega)
  have HS : Hid (SrcE intV W (fun k => k < W.heap.size) (.slice a len cap) zs) := hs
  have HB : Hid (chk zs = 0 ∧ zs.length ≤ 5000 ∧ Good zs ns) := hid ⟨hb, by omega, hg⟩
  have b1 : decide ((5000 : Int) < (len : Int)) = false := by simp; omega
  have HNL : Hid (ns.length = len) := hid (by rw [hg.len, hl])
  have h288 : len ≤ 288 := by have := hg.max; have := HNL.out; omega
  rw [hl] at HLE
  have HL : Hid (zs.length = len) := hl
  clear hs hb hg hl
  go_enter Try.func3, Try.ntmps3
  go_wp2_with fail
  refine HLE.mono ?_
  rintro e w1 ⟨g, rfl, hL1, hk1, hgb, _⟩
  have HL1 : Hid (Lent w1 g zs) := hL1
  have HK1 : Hid (Same W w1) := hk1
  have HCH := check_any w1 _ _ zs hL1.src (by have := HB.out.2.1; omega)
  rw [HB.out.1, HL.out] at HCH
  clear hL1 hk1 HLE
  go_wp2_with fail
  refine HCH.mono ?_
  rintro e w2 ⟨rfl, hk2⟩
  have HL2 : Hid (Lent w2 g zs) := hid (HL1.out.kept hk2 (fun h => h))
  have HK2 : Hid (Same W w2) := hid (Same.trans HK1.out hk2)
  have HCO := codes_good w2 _ _ zs ns HL2.out.src HB.out.2.2 HB.out.1
  rw [HL.out] at HCO
  clear hk2 HCH
  go_wp2_with fail
  refine HCO.mono ?_
  rintro e w3 ⟨⟨gc, nc, cc, rfl, hrc⟩, hk3⟩
  have hnc := hrc.len
  rw [codesL_length, HNL.out] at hnc
  subst hnc
  have HRC3 : Hid (WRow w2.heap.size w3 (.slice (some ⟨gc, 0, none⟩) len cc) (codesL ns)) := hrc
  have HL3 : Hid (Lent w3 g zs) := hid (HL2.out.kept hk3 (fun h => h))
  have HK3 : Hid (Same W w3) := hid (Same.trans HK2.out hk3)
  have HRC := rcodes_good w3 _ _ zs ns (HS.out.same HK3.out) HB.out.2.2 HB.out.1
  have hgc3 : gc < w3.heap.size := hrc.lt rfl
  clear hrc hk3 HCO
  go_wp2_with fail
  refine HRC.mono ?_
  rintro e w4 ⟨⟨gw, nw, rfl, hrw⟩, hk4⟩
  have hnw := hrw.len
  rw [codesL_length, HNL.out] at hnw
  subst hnw
  have HRW4 : Hid (WRow w3.heap.size w4 (.slice (some ⟨gw, 0, none⟩) len len) (codesL ns)) := hrw
  have hgw : w3.heap.size ≤ gw := hrw.ge rfl
  have HL4 : Hid (Lent w4 g zs) := hid (HL3.out.kept hk4 (fun h => h))
  have HK4 : Hid (Same W w4) := hid (Same.trans HK3.out hk4)
  have HRC4 : Hid (WRow w2.heap.size w4 (.slice (some ⟨gc, 0, none⟩) len cc) (codesL ns)) := hid (HRC3.out.same hk4)
  have HBK := back_any w4 g _ _ zs HL4.out (HS.out.same HK4.out) (by have := HB.out.2.1; omega)
  rw [HL.out] at HBK
  clear hrw hk4 HRC HRC3
  go_wp2_with fail
  refine HBK.mono ?_
  rintro e w5 ⟨rfl, hk5⟩
  have HK5 : Hid (Same W w5) := hid (Same.trans HK4.out hk5)
  have HRC5 : Hid (WRow w2.heap.size w5 (.slice (some ⟨gc, 0, none⟩) len cc) (codesL ns)) := hid (HRC4.out.same hk5)
  have HRW5 : Hid (WRow w3.heap.size w5 (.slice (some ⟨gw, 0, none⟩) len len) (codesL ns)) := hid (HRW4.out.same hk5)
  have hgcW : W.heap.size ≤ gc := by have := HRC4.out.ge (k := gc) rfl; have := HK2.out.size; omega
  have hd : ((len : Int) != (len : Int)) = false := by simp
  clear hk5 HBK HRC4 HRW4
  go_wp2_with fail
  clear hd
  go_loopg [9] len (fun q z wr => ∃ i : Nat, len - i ≤ q ∧ i ≤ len ∧ z = .int .i64 (i : Nat) ∧ (∃ xs, Hid (WRow w2.heap.size wr (.slice (some ⟨gc, 0, none⟩) len cc) xs ∧ xs.length = len ∧ xs.drop i = (codesL ns).drop i)) ∧ Hid (Kept (· = gc) w5 wr))
  case atStart => exact ⟨0, by omega, by omega, rfl, ⟨codesL ns, hid ⟨HRC5.out, by rw [codesL_length]; exact HNL.out, rfl⟩⟩, Kept.refl _ _⟩
  case round =>
    obtain ⟨i, hq, hi, rfl, ⟨xs, HX⟩, HK⟩ := hrel
    by_cases hlt : i < len
    · have hxl : i < xs.length := by have := HX.out.2.1; omega
      have hcl : i < (codesL ns).length := by rw [codesL_length]; have := HNL.out; omega
      have hxe : xs[i] = (codesL ns)[i] := by
        have h := HX.out.2.2
        rw [List.drop_eq_getElem_cons hxl, List.drop_eq_getElem_cons hcl] at h
        simp only [List.cons.injEq] at h
        exact h.1
      have hxd : xs.drop (i + 1) = (codesL ns).drop (i + 1) := by
        have h := HX.out.2.2
        rw [List.drop_eq_getElem_cons hxl, List.drop_eq_getElem_cons hcl] at h
        simp only [List.cons.injEq] at h
        exact h.2
      obtain ⟨x, hx⟩ : ∃ x, x = (codesL ns)[i] := ⟨_, rfl⟩
      have c1 : wr.cell? ⟨gc, i, none⟩ = some (.int .u32 (x : Nat)) := by rw [HX.out.1.cell i hxl, hxe, ← hx]; rfl
      have c2 : wr.cell? ⟨gw, i, none⟩ = some (.int .u32 (x : Nat)) := by
        rw [(HRW5.out.kept HK.out (fun k hk e => by simp [Value.ownBlock] at hk; omega)).cell i hcl, ← hx]; rfl
      have f1 := HX.out.1.frozen i
      have hd : ((x : Int) != (x : Int)) = false := by simp
      have HX2 : Hid (WRow w2.heap.size (wr.setCell ⟨gc, i, none⟩ (.int .u32 99)) (.slice (some ⟨gc, 0, none⟩) len cc) (xs.set i 99) ∧ (xs.set i 99).length = len ∧ (xs.set i 99).drop (i + 1) = (codesL ns).drop (i + 1)) := hid ⟨HX.out.1.lay i 99, by rw [List.length_set]; exact HX.out.2.1, by rw [List.drop_set_of_lt (by omega)]; exact hxd⟩
      clear hxe hxd hx
      go_wp2_with fail
      go_quiet (fail)
      go_wp2_with fail
      go_roundg (gk - 1)
      case measure => omega
      case rel => exact ⟨i + 1, by omega, by omega, by go_num, ⟨xs.set i 99, HX2⟩, (HK.out.drewN _).setCell ⟨gc, i, none⟩ _ (.inl rfl)⟩
    · have HA := awake_any wr
      have HKW : Hid (Same W wr) := hid (Same.then HK5.out HK.out (fun x hx e => by omega))
      go_wp2_with fail
      refine HA.mono ?_
      rintro e w6 ⟨rfl, hk6⟩
      have HK6 : Hid (Same W w6) := hid (Same.trans HKW.out hk6)
      clear hk6 HA
      go_wp2_with fail
      go_ret
      exact ⟨rfl, HK6.out.bel⟩

theorem huffCodes_all (a : Option Addr) (len cap : Nat) (zs : List Int) (W : World) (h : IsRow .i64 W a len cap zs) :
    Calls Try.prog 3 #[.slice a len cap] W fun e w' => e = .returned (.bool true) ∧ Below W.heap.size W w' := by
  obtain ⟨hs, hl⟩ := h.ints
  clear h
  by_cases hlong : 5000 < len
  · have b1 : decide ((5000 : Int) < (len : Int)) = true := by simp; omega
    clear hlong hl hs
    go_enter Try.func3, Try.ntmps3
    go_wp2_with fail
    go_ret
    exact ⟨rfl, Below.refl _ _⟩
  · by_cases hb : chk (zs.take len) = 0
    · exact codesLaw_good W a len cap _ _ hs hl (by omega) (good_of hb) hb
    · exact codesLaw_bad W a len cap _ hs hl (by omega) hb

end Go.Proofs.Ytddjbofdepamhaa
