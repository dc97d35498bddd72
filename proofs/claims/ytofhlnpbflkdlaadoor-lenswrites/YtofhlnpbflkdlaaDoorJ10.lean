/-
  Of the proof: parts LnCat, HDec, HDec2, HNew, LnTk, LnTs, LnTb, LnTc, HPack, HItem, HMerge, HLev.
-/
import Derived.Lib.AppendZerosOnto
import Derived.Lib.Walk
import Derived.Deep.RegionLaw
import Derived.Test.YtofhlnpbflkdlaaDoorJ9
import Derived.Test.YtofhlnpbflkdlaaDoorJ5
import Derived.Test.YtofhlnpbflkdlaaDoorJ6
import Derived.Test.YtofhlnpbflkdlaaDoorJ7
import Derived.Test.YtofhlnpbflkdlaaDoorJ8
import Derived.Test.YtofhlnpbflkdlaaDoorJ2
import Derived.Test.YtofhlnpbflkdlaaDoorJ3
import Derived.Test.YtofhlnpbflkdlaaDoorJ1
import Derived.Test.YtofhlnpbflkdlaaDoorJ4

/-
  slices.Concat of two lists; Write's first steps.
-/
namespace Go.Proofs.YtofhlnpbflkdlaaDoor
open Go.RowKit

set_option maxRecDepth 100000 in
set_option maxHeartbeats 2000000 in
theorem lgrow_any (w : World) (n : Nat) (h1 : 1 ≤ n) (hn : n ≤ 1000000) :
    Calls Tryd.prog 61 #[.slice none 0 0, .int .i64 (n : Nat)] w fun e w' => (∃ G, e = .returned (.slice (some ⟨w.heap.size, 0, none⟩) 0 G) ∧ NRow w.heap.size w' (.slice (some ⟨w.heap.size, 0, none⟩) 0 G) []) ∧ Same w w' := by
  obtain ⟨i0, hi, hz0, hz1, hz2⟩ := info_parts Tryd.infoN
  have hbig : (0 + n) * i0.bytes ≤ 140737488355328 := by rw [hz2]; omega
  have hold : (Builtin.firstCells i0.size 0 (.slice none 0 0)).run Tryd.prog w.drew = .ok ([] : List Value).toArray w.drew := run_firstCells_none w.drew i0.size 0 0 0
  have hrz : ∀ ty, (Builtin.append_ #[22, 3] ty #[.slice none 0 0, .int .i64 (n : Nat)]).run Tryd.prog w =
      .ok (.slice (some ⟨w.heap.size, 0, none⟩) (0 + n) (grownCap w (0 + n) 0 3)) (w.drew.alloc (.cells (([] : List Value).toArray ++ Builtin.zeroCells (natV 0).cells n ++ Builtin.zeroCells (natV 0).cells (grownCap w (0 + n) 0 3 - (0 + n))) 3)) := fun ty =>
    Lib.run_append_grow_zeros w 22 3 ty 3 i0 _ .i64 .i64 Tryd.underlying22 Tryd.underlying3 hi hz0 none 0 0 [] hold n (by omega) (by omega) (by omega) (by omega) (by rw [hz2]; omega) (growslice_fits (by omega) hbig)
  have hGn : 0 + n ≤ grownCap w (0 + n) 0 3 := grownCap_ge w _ _ _
  have hGm : grownCap w (0 + n) 0 3 ≤ maxLen := grownCap_le_maxLen w _ _ _ (by unfold maxLen; omega)
  obtain ⟨G, hG⟩ : ∃ G, G = grownCap w (0 + n) 0 3 := ⟨_, rfl⟩
  rw [← hG] at hrz hGn hGm
  rw [Nat.zero_add] at hrz hGn
  obtain ⟨cur, hcur⟩ : ∃ cur, cur = ([] : List Value).toArray ++ Builtin.zeroCells (natV 0).cells n ++ Builtin.zeroCells (natV 0).cells (G - n) := ⟨_, rfl⟩
  have hcs : cur.size = G := by
    rw [hcur]
    have e : (natV 0).cells.size = 1 := rfl
    simp [Builtin.zeroCells, e]
    omega
  rw [← hcur] at hrz
  have HROW : Hid (NRow w.heap.size (w.drew.alloc (.cells cur 3)) (.slice (some ⟨w.heap.size, 0, none⟩) 0 G) []) := hid ⟨rfl, .inr ⟨w.heap.size, G, cur, rfl, Nat.le_refl _, Blk.new w.drew cur 3, Nat.zero_le _, hGm, by rw [hcs, Nat.mul_one], by simp⟩⟩
  have HK : Hid (Same w (w.drew.alloc (.cells cur 3))) := hid (((Kept.refl _ w).drew).alloc _)
  clear hold hbig hi hz0 hz1 hz2 hG hcur hcs hGm
  go_enter Tryd.func61, Tryd.ntmps61
  go_wp2_with (at_builtin; refine Lib.wpList_append_run _ rfl _ _ _ _ rfl _ _ rfl rfl _ _ (hrz _) ?_)
  all_goals
    go_ret
    exact ⟨⟨G, rfl, HROW.out⟩, HK.out⟩

set_option maxRecDepth 100000 in
set_option maxHeartbeats 2000000 in
theorem lconcat_any (w : World) (h la cA lb cB : Nat) (adA adB : Addr) (I J : Nat → Prop) (xs ys : List Int) (hc1 : w.cell? ⟨h, 0, none⟩ = some (.slice (some adA) la cA)) (hc2 : w.cell? ⟨h, 1, none⟩ = some (.slice (some adB) lb cB))
    (hA : SrcE intV w I (.slice (some adA) la cA) xs) (hB : SrcE intV w J (.slice (some adB) lb cB) ys) (hla : 1 ≤ la) (hla2 : la ≤ 1000) (hlb : lb ≤ 1000) :
    Calls Tryd.prog 44 #[.slice (some ⟨h, 0, none⟩) 2 2] w fun e w' => ∃ v', e = .returned v' ∧ IRow w.heap.size w' v' (xs ++ ys) ∧ Same w w' := by
  have hxl := hA.at.1
  have hyl := hB.at.1
  have HA : Hid (SrcE intV w I (.slice (some adA) la cA) xs) := hA
  have HB : Hid (SrcE intV w J (.slice (some adB) lb cB) ys) := hB
  obtain ⟨t, ht⟩ : ∃ t, t = la + lb := ⟨_, rfl⟩
  have htI : (la : Int) + (lb : Int) = (t : Int) := by omega
  have htw : IntKind.i64.wrap (t : Int) = (t : Int) := by rw [IntKind.wrap_i64]; omega
  have HGR := lgrow_any w t (by omega) (by omega)
  have HXL : Hid (la = xs.length ∧ lb = ys.length) := hid ⟨hxl, hyl⟩
  clear hA hB ht hxl hyl
  go_enter Tryd.func44, Tryd.ntmps44
  go_wp2_with fail
  refine wp_loop_rounds 3 ?_
  rw [rounds_succ]
  go_wp2_with fail
  rw [rounds_succ]
  go_wp2_with fail
  rw [rounds_succ]
  go_wp2_with fail
  refine HGR.mono ?_
  rintro e w1 ⟨⟨G, rfl, hr1⟩, hk1⟩
  have HR1 : Hid (IRow w.heap.size w1 (.slice (some ⟨w.heap.size, 0, none⟩) 0 G) []) := hid (hr1.recode (enc' := intV) (ys := []) rfl)
  have HK1 : Hid (Same w w1) := hk1
  have c1 : w1.cell? ⟨h, 0, none⟩ = some (.slice (some adA) la cA) := hk1.cell hc1 (fun f => f)
  have c2 : w1.cell? ⟨h, 1, none⟩ = some (.slice (some adB) lb cB) := hk1.cell hc2 (fun f => f)
  have hsz1 := hk1.size
  clear hr1 hk1 HGR
  go_wp2_with fail
  refine wp_loop_rounds 3 ?_
  rw [rounds_succ]
  go_wp2_with (at_builtin; refine wpList_append_x _ intV intV_one w.heap.size 22 3 (intV 0) 8 Tryd.underlying22 Tryd.infoI rfl (by decide) rfl (.tmp 31) (.tmp 32) rfl _ [] rfl HR1.out _ (some adA) la cA xs rfl (HA.out.same HK1.out) (fun e => by cases e) (by have := HXL.out; simp; omega) hsz1 ?_; intro v3 w3 hr3 hg3; have HR3 : Hid (IRow w.heap.size w3 v3 xs) := hid (by simpa using hr3); have HK3 : Hid (Same w w3) := hid (HK1.out.grown hg3 (fun j e => .inr (HR1.out.ge e))); have d2 : w3.cell? ⟨h, 1, none⟩ = some (.slice (some adB) lb cB) := HK3.out.cell hc2 (fun f => f); clear hr3 hg3)
  have hsz3 := HK3.out.size
  rw [rounds_succ]
  go_wp2_with (at_builtin; refine wpList_append_x _ intV intV_one w.heap.size 22 3 (intV 0) 8 Tryd.underlying22 Tryd.infoI rfl (by decide) rfl (.tmp 31) (.tmp 32) rfl _ xs rfl HR3.out _ (some adB) lb cB ys rfl (HB.out.same HK3.out) (fun e => by cases e) (by have := HXL.out; omega) hsz3 ?_; intro v4 w4 hr4 hg4; have HR4 : Hid (IRow w.heap.size w4 v4 (xs ++ ys)) := hr4; have HK4 : Hid (Same w w4) := hid (HK3.out.grown hg4 (fun j e => .inr (HR3.out.ge e))); clear hr4 hg4)
  rw [rounds_succ]
  go_wp2_with fail
  go_ret
  exact ⟨_, rfl, HR4.out, HK4.out⟩

end Go.Proofs.YtofhlnpbflkdlaaDoor

/-
  The decoder's calls: Max, New, search, Next.
-/
namespace Go.Proofs.YtofhlnpbflkdlaaDoor
open Go.RowKit

set_option maxRecDepth 100000 in
set_option maxHeartbeats 1000000 in
theorem max_any (w : World) (v : Value) (I : Nat → Prop) (ns : List Nat) (hs : SrcE natV w I v ns) (hn : ns.length ≤ 1000000) (h0 : 0 < ns.length) (h15 : ∀ n ∈ ns, n ≤ 1000000000000) :
    Calls Tryd.prog 92 #[v] w fun e w' => e = .returned (.int .i64 (mxL ns : Nat)) ∧ w' = w := by
  obtain ⟨b, o, cap, rfl, _, _, c0⟩ := hs.get 0 h0
  have HS : Hid (SrcE natV w I (.slice (some ⟨b, o, none⟩) ns.length cap) ns) := hs
  have H15 : Hid (∀ n ∈ ns, n ≤ 1000000000000) := h15
  clear hs h15
  obtain ⟨x0, hx0⟩ : ∃ x, x = ns[0] := ⟨_, rfl⟩
  rw [← hx0] at c0
  unfold natV at c0
  have HX0 : Hid (x0 = ns[0]) := hx0
  clear hx0
  rw [Nat.add_zero] at c0
  have hlen : ((ns.length : Int) < 1) = False := by simp; omega
  go_enter Tryd.func92, Tryd.ntmps92
  go_wp2_with fail
  clear hlen
  go_loopg [3, 4] ns.length (fun q zm zi wr => ∃ (i m : Nat), ns.length - i ≤ q ∧ i ≤ ns.length ∧ 1 ≤ i ∧ zi = .int .i64 (i : Nat) ∧ zm = .int .i64 (m : Nat) ∧ wr = w ∧ Hid (m = (ns.take i).foldl max 0))
  case atStart => exact ⟨1, x0, by omega, by omega, by omega, rfl, rfl, rfl, hid (by
    rw [show (1 : Nat) = 0 + 1 from rfl, List.take_succ_eq_append_getElem h0, ← HX0.out]; simp)⟩
  case round =>
    obtain ⟨i, m, hq, hi, h1i, rfl, rfl, rfl, HF⟩ := hrel
    by_cases hlt : i < ns.length
    · obtain ⟨b2, o2, cap2, e, _, _, c1⟩ := HS.out.get i hlt
      simp only [Value.slice.injEq, Option.some.injEq, Addr.mk.injEq, and_true] at e
      obtain ⟨⟨rfl, rfl⟩, hxe, rfl⟩ := e
      clear hxe
      obtain ⟨x, hx⟩ : ∃ x, x = ns[i] := ⟨_, rfl⟩
      rw [← hx] at c1
      unfold natV at c1
      have HX : Hid (x = ns[i]) := hx
      clear hx
      by_cases hmx : m < x
      · go_wp2_with fail
        go_roundg (gk - 1)
        case measure => omega
        case rel => exact ⟨i + 1, x, by omega, by omega, by omega, by go_num, by first | rfl | (congr 1; omega), rfl, hid (by rw [List.take_succ_eq_append_getElem hlt, List.foldl_append, ← HF.out, ← HX.out]; simp [Nat.max_eq_right (show m ≤ x by omega)])⟩
      · go_wp2_with fail
        go_roundg (gk - 1)
        case measure => omega
        case rel => exact ⟨i + 1, m, by omega, by omega, by omega, by go_num, by first | rfl | (congr 1; omega), rfl, hid (by rw [List.take_succ_eq_append_getElem hlt, List.foldl_append, ← HF.out, ← HX.out]; simp [Nat.max_eq_left (show x ≤ m by omega)])⟩
    · have hi2 : i = ns.length := by omega
      subst hi2
      go_wp2_with fail
      go_ret
      have h := HF.out
      rw [List.take_of_length_le (Nat.le_refl _)] at h
      exact ⟨by rw [mxL, ← h]; rfl, rfl⟩

/-- A decoder at block p. -/
structure Dec (w : World) (p : Nat) (vc vs : Value) (ns : List Nat) : Prop where
  cc : w.cell? ⟨p, 0, none⟩ = some vc
  cs : w.cell? ⟨p, 1, none⟩ = some vs
  rc : NRow 0 w vc (cntL ns)
  rs : NRow 0 w vs (ris ns)

/-- The blocks of a decoder. -/
def DF (p : Nat) (vc vs : Value) (k : Nat) : Prop := k = p ∨ vc.ownBlock = some k ∨ vs.ownBlock = some k

theorem Dec.kept {F : Nat → Prop} {w w' : World} {p : Nat} {vc vs : Value} {ns : List Nat} (h : Dec w p vc vs ns) (hk : Kept F w w') (hF : ∀ k, DF p vc vs k → ¬ F k) : Dec w' p vc vs ns :=
  ⟨hk.cell h.cc (hF p (.inl rfl)), hk.cell h.cs (hF p (.inl rfl)), h.rc.kept hk (fun k e => hF k (.inr (.inl e))), h.rs.kept hk (fun k e => hF k (.inr (.inr e)))⟩

theorem Dec.lt {w : World} {p : Nat} {vc vs : Value} {ns : List Nat} (h : Dec w p vc vs ns) {k : Nat} (hk : DF p vc vs k) : k < w.heap.size := by
  rcases hk with rfl | hk | hk
  · exact World.block_lt_of_cell? w _ h.cc
  · exact h.rc.lt hk
  · exact h.rs.lt hk

theorem Dec.drewN {w : World} {p : Nat} {vc vs : Value} {ns : List Nat} (h : Dec w p vc vs ns) (k : Nat) : Dec (w.drewN k) p vc vs ns := ⟨h.cc, h.cs, h.rc, h.rs⟩

theorem new_bad (w : World) (v : Value) (I : Nat → Prop) (zs : List Int) (hs : SrcE intV w I v zs) (hn : zs.length ≤ 1000000) (hb : chk zs ≠ 0) :
    Calls Tryd.prog 81 #[v] w fun e w' => e = .returned (.tuple #[.pointer none, .int .i64 (chk zs : Nat)]) ∧ Same w w' := by
  have HC := check_any w v I zs hs hn
  generalize chk zs = c at HC hb
  have hd : ((c : Int) != 0) = true := by simp; omega
  clear hs hb
  go_enter Tryd.func81, Tryd.ntmps81
  go_wp2_with fail
  refine HC.mono ?_
  rintro e w2 ⟨rfl, hk⟩
  have HK : Hid (Same w w2) := hk
  clear hk HC
  go_wp2_with fail
  first
    | (go_ret2; exact ⟨rfl, HK.out⟩)
    | (go_quiet (fail); go_wp2_with fail; go_ret2; exact ⟨rfl, HK.out.drewN _⟩)

set_option maxRecDepth 100000 in
set_option maxHeartbeats 2000000 in
theorem search_any (w : World) (p : Nat) (vc vs : Value) (ns : List Nat) (R h : Nat) (hd : Dec w p vc vs ns) (hm : mxL ns ≤ 15) (hns : ns.length ≤ 288) (hh : h ≤ mxL ns) (hR : R < 4294967296) :
    Calls Tryd.prog 97 #[.pointer (some ⟨p, 0, none⟩), .int .u32 (R : Nat), .int .i64 (h : Nat)] w fun e w' => (∃ sym long er, e = .returned (.tuple #[.int .i64 (sym : Nat), .int .i64 (long : Nat), .int .i64 (er : Nat)]) ∧ Ans ns h R sym long er) ∧ Same w w' := by
  obtain ⟨ac, capc, rfl, shc, _⟩ := hd.rc.shape
  obtain ⟨as', caps, rfl, shs, _⟩ := hd.rs.shape
  have c1 := hd.cc
  have c2 := hd.cs
  have HD : Hid (Dec w p (.slice ac (cntL ns).length capc) (.slice as' (ris ns).length caps) ns) := hd
  have HM : Hid (mxL ns = (cntL ns).length) := hid (by simp [cntL])
  have hcl : (cntL ns).length ≤ 15 := by have := HM.out; omega
  have hhl : h ≤ (cntL ns).length := by have := HM.out; omega
  have HRL : Hid ((ris ns).length ≤ 288) := hid (Nat.le_trans (ris_length ns) hns)
  clear hd hm shc shs hh
  generalize hcn : (cntL ns).length = cn at *
  have HCN : Hid ((cntL ns).length = cn) := hcn
  clear hcn
  go_enter Tryd.func97, Tryd.ntmps97
  go_wp2_with fail
  go_step3
  go_wp2_with fail
  go_step3
  go_wp2_with fail
  go_loopg [6, 7, 8, 9, 10, 18] cn (fun q z6 z7 z8 zp za zn wr => ∃ (n place ahead : Nat), cn - n ≤ q ∧ n ≤ cn ∧ n ≤ h ∧ place ≤ 32768 ∧ ahead ≤ 288 ∧ z6 = .int .i64 0 ∧ z7 = .int .i64 0 ∧ z8 = .int .i64 32 ∧ zp = .int .i64 (place : Nat) ∧ za = .int .i64 (ahead : Nat) ∧ zn = .int .i64 (n : Nat) ∧ Hid (Seek ns R n place ahead) ∧ Hid (Same w wr))
  case atStart => exact ⟨0, 0, 0, by omega, by omega, by omega, by omega, by omega, rfl, rfl, rfl, rfl, rfl, rfl, Seek.start ns R, Kept.refl _ _⟩
  case round =>
    obtain ⟨n, place, ahead, hq, hn, hnh, hp1, hp2, rfl, rfl, rfl, rfl, rfl, rfl, HF, HK⟩ := hrel
    have d2 : wr.cell? ⟨p, 1, none⟩ = some (.slice as' (ris ns).length caps) := HK.out.cell c2 (fun h => h)
    by_cases hlt : n < cn
    · obtain ⟨b, o, cap', e, _, _, cx⟩ := (SrcE.ofRow (HD.out.rc.same HK.out)).get n (by have := HCN.out; omega)
      simp only [Value.slice.injEq] at e
      obtain ⟨rfl, hxe, rfl⟩ := e
      clear hxe
      obtain ⟨x, hx⟩ : ∃ x, x = ofN ns (n + 1) := ⟨_, rfl⟩
      have cx2 : wr.cell? ⟨b, o + n, none⟩ = some (.int .i64 (x : Int)) := by rw [cx, hx]; simp [natV, cntL]
      have HX : Hid (x = ofN ns (n + 1)) := hx
      clear cx hx
      obtain ⟨bt, hbt⟩ : ∃ bt, bt = R / 2 ^ n % 2 := ⟨_, rfl⟩
      have hbl : bt < 2 := by omega
      have hbi : bits .and .u32 ((R : Int) / 2 ^ n) 1 = (bt : Int) := by
        have e1 : (R : Int) / 2 ^ n = ((R / 2 ^ n : Nat) : Int) := by simp
        have := u32_and_nat (R / 2 ^ n) 1 (Nat.lt_of_le_of_lt (Nat.div_le_self _ _) hR) (by decide)
        rw [e1, hbt]
        rw [Nat.and_one_is_mod] at this
        exact this
      have HB : Hid (bt = R / 2 ^ n % 2) := hbt
      have hx288 : x ≤ 288 := by
        have h1 := upN_succ ns n; have h2 := upN_le ns (n + 1); have h3 := HX.out; have h4 := HRL.out; omega
      clear hbt
      by_cases hend : n = h
      · have hdn : ((n : Int) == (h : Int)) = true := by simp [hend]
        have HE : Hid (n = h) := hend
        clear hend
        go_wp2_with fail
        rw [Exit.noGoto_ret]
        go_ret3
        refine ⟨⟨0, 0, 10, rfl, .inr (.inl ⟨rfl, rfl, rfl, ?_, ?_⟩)⟩, HK.out⟩
        · have := HM.out; have := HCN.out; have := HE.out; omega
        · have h1 := HF.out.pl
          rw [HE.out] at h1
          omega
      · have hdn : ((n : Int) == (h : Int)) = false := by simp; omega
        by_cases hfd : 2 * place + bt < x
        · obtain ⟨hk, hkey, hcode⟩ := HF.out.found (by omega) (by rw [← HB.out, ← HX.out]; exact hfd)
          obtain ⟨b3, o3, cap3, e3, _, _, c3⟩ := (SrcE.ofRow (HD.out.rs.same HK.out)).get _ hk
          simp only [Value.slice.injEq] at e3
          obtain ⟨rfl, hxe, rfl⟩ := e3
          clear hxe
          obtain ⟨sy, hsy⟩ : ∃ sy, sy = (ris ns)[ahead + (2 * place + R / 2 ^ n % 2)] := ⟨_, rfl⟩
          rw [← hsy] at c3 hkey hcode
          rw [← HB.out] at c3 hk
          unfold natV at c3
          have HANS : Hid (Ans ns h R sy (n + 1) 0) := hid (.inl ⟨rfl, by rw [hsy]; exact List.getElem_mem _, hkey.symm, by omega, hcode⟩)
          clear hsy hkey hcode
          have hrl := HRL.out
          go_wp2_with fail
          rw [Exit.noGoto_ret]
          go_ret3
          exact ⟨⟨sy, n + 1, 0, rfl, HANS.out⟩, HK.out⟩
        · have HS2 : Hid (Seek ns R (n + 1) (2 * place + bt - x) (ahead + x)) := hid (by
            have := HF.out.next (by omega) (by rw [← HB.out, ← HX.out]; exact hfd)
            rw [← HB.out, ← HX.out] at this; exact this)
          have hah : ahead + x ≤ 288 := by
            have h1 := HS2.out.ah; have h2 := upN_le ns (n + 1); have h4 := HRL.out; omega
          have hpl : 2 * place + bt - x ≤ 32768 := by
            have h1 := HS2.out.pl
            have h2 := rv_lt (n + 1) R
            have h3 : rv (n + 1) R * 2 ^ (15 - (n + 1)) ≤ 2 ^ (n + 1) * 2 ^ (15 - (n + 1)) := Nat.mul_le_mul_right _ (by omega)
            rw [← Nat.pow_add, show n + 1 + (15 - (n + 1)) = 15 by omega] at h3
            have h4 : (2 * place + bt - x) * 1 ≤ (2 * place + bt - x) * 2 ^ (15 - (n + 1)) := Nat.mul_le_mul_left _ (Nat.two_pow_pos _)
            have h5 : (2 : Nat) ^ 15 = 32768 := by decide
            omega
          go_wp2_with fail
          go_roundg (gk - 1)
          case measure => omega
          case rel => exact ⟨n + 1, 2 * place + bt - x, ahead + x, by omega, by omega, by omega, hpl, hah, rfl, rfl, rfl, by congr 1; omega, by congr 1, by go_num, HS2, HK⟩
    · have hn2 : n = cn := by omega
      subst hn2
      go_wp2_with fail
      rw [Exit.noGoto_ret]
      go_ret3
      refine ⟨⟨0, 0, 32, rfl, .inr (.inr ⟨rfl, rfl, rfl, ?_, ?_⟩)⟩, HK.out⟩
      · have := HM.out; have := HCN.out; omega
      · have h1 := HF.out.pl
        have h2 : n = mxL ns := by have := HM.out; have := HCN.out; omega
        have h3 : n = h := by omega
        rw [← sumTo_all, ← upN_all ns, ← h2, ← h3]
        omega

end Go.Proofs.YtofhlnpbflkdlaaDoor

/-
  The decoder's calls: New, Next.
-/
namespace Go.Proofs.YtofhlnpbflkdlaaDoor
open Go.RowKit

theorem cntL_length (ns : List Nat) : (cntL ns).length = mxL ns := by simp [cntL]

set_option maxRecDepth 100000 in
set_option maxHeartbeats 2000000 in
theorem next_any (w : World) (d : Nat) (vc vs : Value) (ns : List Nat) (p c : Nat) (s : Value) (bs : List Nat) (hd : Dec w d vc vs ns) (hm : mxL ns ≤ 15) (hns : ns.length ≤ 288) (hs : St w p s bs c) (hc : c ≤ 8 * bs.length) (hlen : bs.length ≤ 100000000) (hdis : ∀ k, DF d vc vs k → ¬ Fp p s k) :
    Calls Tryd.prog 93 #[.pointer (some ⟨d, 0, none⟩), .pointer (some ⟨p, 0, none⟩)] w fun e w' => (∃ sym long er, e = .returned (.tuple #[.int .i64 (sym : Nat), .int .i64 (er : Nat)]) ∧
      Ans ns (min (8 * bs.length - c) (mxL ns)) (n256 bs / 2 ^ c % 2 ^ (min (8 * bs.length - c) (mxL ns))) sym long er ∧ St w' p s bs (c + long)) ∧ Kept (· = p) w w' := by
  have HL := fun q => left_any p c s bs (w.drewN q) (hs.drewN q) hc (by omega)
  obtain ⟨ac, capc, rfl, shc, _⟩ := hd.rc.shape
  have c1 := hd.cc
  have HD : Hid (Dec w d (.slice ac (cntL ns).length capc) vs ns) := hd
  have HS : Hid (St w p s bs c) := hs
  have HX : Hid (∀ k, DF d (.slice ac (cntL ns).length capc) vs k → ¬ Fp p s k) := hdis
  have hcl := cntL_length ns
  obtain ⟨left, hleft⟩ : ∃ left, left = 8 * bs.length - c := ⟨_, rfl⟩
  rw [← hleft] at HL ⊢
  obtain ⟨mx, hmx⟩ : ∃ mx, mx = mxL ns := ⟨_, rfl⟩
  rw [← hmx] at hcl hm ⊢
  have HMX : Hid (mx = mxL ns) := hmx
  have HLEFT : Hid (left = 8 * bs.length - c) := hleft
  have HCL : Hid ((cntL ns).length = mx) := hcl
  clear hd hs hdis hmx hleft shc
  rw [hcl] at c1 HD HX
  clear hcl
  go_enter Tryd.func93, Tryd.ntmps93
  by_cases hlm : mx < left
  · have HMIN : Hid (min left mx = mx) := hid (by omega)
    go_wp2_with fail
    go_quiet ((go_at_call 29; exact Calls.quiet_of (HL _)))
    have HT := take_good p c mx s bs (w.drewN nq) (HS.out.drewN nq) (by omega) (by omega) (by have := HLEFT.out; omega)
    obtain ⟨R, hR⟩ : ∃ R, R = n256 bs / 2 ^ c % 2 ^ mx := ⟨_, rfl⟩
    rw [← hR] at HT
    have HR : Hid (R = n256 bs / 2 ^ c % 2 ^ mx) := hR
    have hRl : R < 4294967296 := by
      have h1 : R < 2 ^ mx := by rw [hR]; exact Nat.mod_lt _ (Nat.two_pow_pos _)
      have h2 : 2 ^ mx ≤ 2 ^ 15 := Nat.pow_le_pow_right (by omega) (by omega)
      have h3 : (2 : Nat) ^ 15 = 32768 := by decide
      omega
    clear hR
    go_wp2_with fail
    refine HT.mono ?_
    rintro e w1 ⟨rfl, hst1, hk1⟩
    have HS1 : Hid (St w1 p s bs (c + mx)) := hst1
    have HK1 : Hid (Kept (· = p) w w1) := hid (((Kept.refl (· = p) w).drewN nq).trans hk1 (fun _ _ h => h) (fun _ _ h => h))
    have HSE := search_any w1 d _ vs ns R mx (HD.out.kept HK1.out (fun k hk e => HX.out k hk (.inl e))) (by have := HMX.out; omega) hns (by have := HMX.out; omega) hRl
    clear hst1 hk1 HT
    go_wp2_with fail
    refine HSE.mono ?_
    rintro e w2 ⟨⟨sym, long, er, rfl, hans⟩, hk2⟩
    have HANS : Hid (Ans ns mx R sym long er) := hans
    have hll : long ≤ mx := by
      rcases hans with ⟨_, _, _, h, _⟩ | ⟨_, _, h, _⟩ | ⟨_, _, h, _⟩
      · exact h
      · omega
      · omega
    have hsub : ((mx : Int) - (long : Int)) = ((mx - long : Nat) : Int) := by omega
    have HS2 : Hid (St w2 p s bs (c + mx)) := hid (HS1.out.kept hk2 (fun _ _ h => h))
    have HK2 : Hid (Kept (· = p) w w2) := hid (HK1.out.trans hk2 (fun _ _ h => h) (fun _ _ h => h.elim))
    have HBK := back_good p (c + mx) (mx - long) s bs w2 HS2.out (by omega) (by have := HLEFT.out; omega)
    clear hans hk2 HSE
    go_wp2_with fail
    refine HBK.mono ?_
    rintro e w3 ⟨rfl, hst3, hk3⟩
    have HS3 : Hid (St w3 p s bs (c + long)) := hid (by rw [show c + mx - (mx - long) = c + long by omega] at hst3; exact hst3)
    have HK3 : Hid (Kept (· = p) w w3) := hid (HK2.out.trans hk3 (fun _ _ h => h) (fun _ _ h => h))
    clear hst3 hk3 HBK
    go_wp2_with fail
    go_ret2
    exact ⟨⟨sym, long, er, rfl, by rw [HMIN.out, ← HR.out]; exact HANS.out, HS3.out⟩, HK3.out⟩
  · have HMIN : Hid (min left mx = left) := hid (by omega)
    go_wp2_with fail
    go_quiet ((go_at_call 29; exact Calls.quiet_of (HL _)))
    have HT := take_good p c left s bs (w.drewN nq) (HS.out.drewN nq) (by omega) (by omega) (by have := HLEFT.out; omega)
    obtain ⟨R, hR⟩ : ∃ R, R = n256 bs / 2 ^ c % 2 ^ left := ⟨_, rfl⟩
    rw [← hR] at HT
    have HR : Hid (R = n256 bs / 2 ^ c % 2 ^ left) := hR
    have hRl : R < 4294967296 := by
      have h1 : R < 2 ^ left := by rw [hR]; exact Nat.mod_lt _ (Nat.two_pow_pos _)
      have h2 : 2 ^ left ≤ 2 ^ 15 := Nat.pow_le_pow_right (by omega) (by omega)
      have h3 : (2 : Nat) ^ 15 = 32768 := by decide
      omega
    clear hR
    go_wp2_with fail
    refine HT.mono ?_
    rintro e w1 ⟨rfl, hst1, hk1⟩
    have HS1 : Hid (St w1 p s bs (c + left)) := hst1
    have HK1 : Hid (Kept (· = p) w w1) := hid (((Kept.refl (· = p) w).drewN nq).trans hk1 (fun _ _ h => h) (fun _ _ h => h))
    have HSE := search_any w1 d _ vs ns R left (HD.out.kept HK1.out (fun k hk e => HX.out k hk (.inl e))) (by have := HMX.out; omega) hns (by have := HMX.out; omega) hRl
    clear hst1 hk1 HT
    go_wp2_with fail
    refine HSE.mono ?_
    rintro e w2 ⟨⟨sym, long, er, rfl, hans⟩, hk2⟩
    have HANS : Hid (Ans ns left R sym long er) := hans
    have hll : long ≤ left := by
      rcases hans with ⟨_, _, _, h, _⟩ | ⟨_, _, h, _⟩ | ⟨_, _, h, _⟩
      · exact h
      · omega
      · omega
    have hsub : ((left : Int) - (long : Int)) = ((left - long : Nat) : Int) := by omega
    have HS2 : Hid (St w2 p s bs (c + left)) := hid (HS1.out.kept hk2 (fun _ _ h => h))
    have HK2 : Hid (Kept (· = p) w w2) := hid (HK1.out.trans hk2 (fun _ _ h => h) (fun _ _ h => h.elim))
    have HBK := back_good p (c + left) (left - long) s bs w2 HS2.out (by omega) (by have := HLEFT.out; omega)
    clear hans hk2 HSE
    go_wp2_with fail
    refine HBK.mono ?_
    rintro e w3 ⟨rfl, hst3, hk3⟩
    have HS3 : Hid (St w3 p s bs (c + long)) := hid (by rw [show c + left - (left - long) = c + long by omega] at hst3; exact hst3)
    have HK3 : Hid (Kept (· = p) w w3) := hid (HK2.out.trans hk3 (fun _ _ h => h) (fun _ _ h => h))
    clear hst3 hk3 HBK
    go_wp2_with fail
    go_ret2
    exact ⟨⟨sym, long, er, rfl, by rw [HMIN.out, ← HR.out]; exact HANS.out, HS3.out⟩, HK3.out⟩

theorem next_none (w : World) (rv' : Value) : Calls Tryd.prog 93 #[.pointer none, rv'] w fun e w' => e = .returned (.tuple #[.int .i64 0, .int .i64 3]) ∧ w' = w := by
  go_enter Tryd.func93, Tryd.ntmps93
  go_wp2_with fail
  go_ret2
  exact ⟨rfl, rfl⟩

theorem next_noreader (w : World) (d : Nat) : Calls Tryd.prog 93 #[.pointer (some ⟨d, 0, none⟩), .pointer none] w fun e w' => e = .returned (.tuple #[.int .i64 0, .int .i64 3]) ∧ w' = w := by
  go_enter Tryd.func93, Tryd.ntmps93
  go_wp2_with fail
  go_ret2
  exact ⟨rfl, rfl⟩

end Go.Proofs.YtofhlnpbflkdlaaDoor

/-
  New.
-/
namespace Go.Proofs.YtofhlnpbflkdlaaDoor
open Go.RowKit

theorem Kept.undrew {F : Nat → Prop} {w w' : World} (h : Kept F w.drew w') : Kept F w w' := ⟨h.os, h.tape, h.output, h.size, h.block⟩

/-- make of a row of ints, as an equation. -/
theorem make_eq (n : Nat) (hn : n ≤ 1000000) : ∃ ob : Obj, (∀ W : World, (Instr.makeSlice 22 (.int .i64 (n : Nat)) (.int .i64 (n : Nat))).run Tryd.prog W = .ok (.slice (some ⟨W.heap.size, 0, none⟩) n n) (W.alloc ob)) ∧
    ∀ (W : World) (B : Nat), B ≤ W.heap.size → NRow B (W.alloc ob) (.slice (some ⟨W.heap.size, 0, none⟩) n n) (List.replicate n 0) := by
  obtain ⟨i0, hi, hz0, hz1, hz2⟩ := info_parts Tryd.infoN
  have hr := fun W : World => run_make (P := Tryd.prog) W 22 3 i0 (natV 0) Tryd.underlying22 hi hz0 .i64 .i64 (n : Int) (n : Int) (by omega) (Int.le_refl _) (by rw [hz2]; omega) (by omega)
  refine ⟨.cells (madeCells (natV 0).cells (n * i0.size)) 3, fun W => by simpa using hr W, fun W B hB => ?_⟩
  obtain ⟨w1, hr1, ho1, hg1⟩ := run_make_full (P := Tryd.prog) W B 22 3 i0 (natV 0) 1 Tryd.underlying22 hi hz0 hz1 .i64 .i64 n (by rw [hz2]; omega) (by simp only [maxLen]; omega) hB
  have h2 := hr W
  rw [hr1] at h2
  simp only [Result.ok.injEq] at h2
  have h3 := h2.2
  simp only [Int.toNat_natCast] at h3
  rw [← h3]
  have e : (natV 0).cells = #[natV 0] := rfl
  rw [e, Nat.mul_one, toList_madeCells_one] at ho1
  unfold NRow RowE
  simpa using ho1

set_option maxRecDepth 100000 in
set_option maxHeartbeats 2000000 in
theorem new_good (w : World) (v : Value) (I : Nat → Prop) (zs : List Int) (ns : List Nat) (hs : SrcE intV w I v zs) (hg : Good zs ns) (hb : chk zs = 0) :
    Calls Tryd.prog 81 #[v] w fun e w' => (∃ d vc vs, e = .returned (.tuple #[.pointer (some ⟨d, 0, none⟩), .int .i64 0]) ∧ Dec w' d vc vs ns ∧ ∀ k, DF d vc vs k → w.heap.size ≤ k) ∧ Same w w' := by
  obtain ⟨ao, cap, rfl, hx1, hx2⟩ := id hs
  clear hx1 hx2
  have HC := check_any w _ I zs hs (by have := hg.len; have := hg.max; omega)
  rw [hb] at HC
  have HG : Hid (Good zs ns) := hg
  have HS : Hid (SrcE natV w I (.slice ao zs.length cap) ns) := hid (hs.recode hg.eq)
  have HL : Hid (zs.length = ns.length) := hg.len.symm
  have h288 : zs.length ≤ 288 := by have := hg.len; have := hg.max; omega
  have hmx : mxL ns ≤ 15 := mx_le ns 15 hg.le
  clear hs hg hb
  generalize zs.length = n at *
  go_enter Tryd.func81, Tryd.ntmps81
  go_wp2_with fail
  refine HC.mono ?_
  rintro e w2 ⟨rfl, hk⟩
  have HK : Hid (Same w w2) := hk
  clear hk HC
  have HMX := fun wx (h : Same w wx) => max_any wx _ I ns (HS.out.same h) (by have := HL.out; omega) HG.out.pos (fun x hx => by have := HG.out.le x hx; omega)
  have HRI : ∀ wx, Same w wx → Calls Tryd.prog 75 #[.slice ao n cap] wx fun e w' => ∃ a4 n4 c4, e = .returned (.slice a4 n4 c4) ∧ New wx w' (.slice a4 n4 c4) (ris ns) := fun wx h => (rising_any wx _ I ns (HS.out.same h) (by have := HL.out; omega)).mono (by
    rintro e w' ⟨v', rfl, hn⟩
    obtain ⟨a4, c4, rfl, _⟩ := hn.row.shape
    exact ⟨a4, _, c4, rfl, hn⟩)
  obtain ⟨mx, hmxe⟩ : ∃ mx, mx = mxL ns := ⟨_, rfl⟩
  rw [← hmxe] at HMX hmx
  have HME : Hid (mx = mxL ns) := hmxe
  clear hmxe
  obtain ⟨ob, hmk, hmr⟩ := make_eq mx (by omega)
  have HMR : Hid (∀ (W : World) (B : Nat), B ≤ W.heap.size → NRow B (W.alloc ob) (.slice (some ⟨W.heap.size, 0, none⟩) mx mx) (List.replicate mx 0)) := hmr
  clear hmr
  go_upto_region 4 with fail
  go_cut [5] from 13 to 19 (fun z wx => ∃ d vs gc, z = .pointer (some ⟨d, 0, none⟩) ∧ Hid (Same w wx) ∧ Hid (wx.cell? ⟨d, 0, none⟩ = some (.slice (some ⟨gc, 0, none⟩) mx mx) ∧ wx.cell? ⟨d, 1, none⟩ = some vs ∧ NRow w.heap.size wx (.slice (some ⟨gc, 0, none⟩) mx mx) (List.replicate mx 0) ∧ NRow w.heap.size wx vs (ris ns) ∧ w.heap.size ≤ d ∧ w.heap.size ≤ gc ∧ gc ≠ d ∧ vs.ownBlock ≠ some gc ∧ vs.ownBlock ≠ some d))
  case first =>
    go_region_with (first | (go_at_call 92; refine (HMX _ (by first | exact HK.out | exact HK.out.drewN _ | exact HK.out.drew)).mono ?_; rintro e w3 ⟨rfl, rfl⟩) | (go_at_call 75; refine (HRI _ (by first | exact HK.out | exact HK.out.drewN _ | exact HK.out.drew | exact (HK.out.alloc _).drew)).mono ?_; rintro e w4 ⟨a4, n4, c4, rfl, hn4⟩))
    · go_wp2_with fail
      go_meet
      have hsz := HK.out.size
      have hs4 : w2.heap.size + 1 ≤ w4.heap.size := by have := hn4.same.size; simpa using this
      have k4 : Same (w2.alloc ob) w4 := Kept.undrew hn4.same
      have k5 : Same w4 (w4.alloc (.cells #[.slice (some ⟨w2.heap.size, 0, none⟩) mx mx, .slice a4 n4 c4] 133)) := (Kept.refl _ w4).alloc _
      refine ⟨w4.heap.size, _, w2.heap.size, rfl, hid (Same.trans (HK.out.alloc _) (Same.trans k4 k5)), hid ⟨by simp, by simp, RowE.same (RowE.same (HMR.out w2 w.heap.size hsz) k4) k5, RowE.same (RowE.base hn4.row (by show w.heap.size ≤ (w2.alloc ob).heap.size; simp; omega)) k5, by omega, by omega, by omega, ?_, ?_⟩⟩
      · intro e
        have h : (w2.alloc ob).heap.size ≤ w2.heap.size := hn4.row.ge e
        rw [World.size_alloc] at h
        omega
      · intro e
        have := hn4.row.lt e
        omega
    · go_wp2_with fail
      go_meet
      have hsz := HK.out.size
      have hs4 : w2.heap.size ≤ w4.heap.size := hn4.same.size
      have k4 : Same w2 w4 := Kept.undrew hn4.same
      have k5 : Same w4 ((w4.alloc ob).alloc (.cells #[.slice (some ⟨w4.heap.size, 0, none⟩) mx mx, .slice a4 n4 c4] 133)) := ((Kept.refl _ w4).alloc _).alloc _
      have k6 : Same (w4.alloc ob) ((w4.alloc ob).alloc (.cells #[.slice (some ⟨w4.heap.size, 0, none⟩) mx mx, .slice a4 n4 c4] 133)) := (Kept.refl _ _).alloc _
      have hz : (w4.alloc ob).heap.size = w4.heap.size + 1 := by simp
      refine ⟨w4.heap.size + 1, _, w4.heap.size, rfl, hid (Same.trans HK.out (Same.trans k4 k5)), hid ⟨?_, ?_, RowE.same (HMR.out w4 w.heap.size (by omega)) k6, RowE.same (RowE.base hn4.row (by show w.heap.size ≤ w2.heap.size; omega)) k5, by omega, by omega, by omega, ?_, ?_⟩⟩
      · rw [← hz]; simp
      · rw [← hz]; simp
      · intro e
        have := hn4.row.lt e
        omega
      · intro e
        have := hn4.row.lt e
        omega
  case rest =>
    obtain ⟨d, vs, gc, rfl, HKc, HFc⟩ := hcut
    clear HK HMX HRI hmk HMR
    obtain ⟨as', caps, hvs, _⟩ := HFc.out.2.2.2.1.shape
    subst hvs
    have c0 := HFc.out.1
    have c1 := HFc.out.2.1
    have hls : (ris ns).length ≤ 288 := Nat.le_trans (ris_length ns) (by have := HL.out; omega)
    generalize hrl : (ris ns).length = rl at *
    have HRL : Hid ((ris ns).length = rl) := hrl
    clear hrl
    go_wp2_with fail
    go_loopg [25] rl (fun q zk wr => ∃ (k : Nat), rl - k ≤ q ∧ k ≤ rl ∧ zk = .int .i64 (k : Nat) ∧ Hid (NRow w.heap.size wr (.slice (some ⟨gc, 0, none⟩) mx mx) (cntTo ns k)) ∧ Hid (Kept (· = gc) wc wr))
    case atStart => exact ⟨0, by omega, by omega, rfl, hid (by rw [cntTo_zero, ← HME.out]; exact HFc.out.2.2.1), Kept.refl _ _⟩
    case round =>
      obtain ⟨k, hq, hk, rfl, HR, HKr⟩ := hrel
      have hf := HFc.out
      have d0 : wr.cell? ⟨d, 0, none⟩ = some (.slice (some ⟨gc, 0, none⟩) mx mx) := HKr.out.cell c0 (fun e => hf.2.2.2.2.2.2.1 e.symm)
      have d1 : wr.cell? ⟨d, 1, none⟩ = some (.slice as' rl caps) := HKr.out.cell c1 (fun e => hf.2.2.2.2.2.2.1 e.symm)
      have hrs : NRow w.heap.size wr (.slice as' rl caps) (ris ns) := hf.2.2.2.1.kept HKr.out (fun j hj e => hf.2.2.2.2.2.2.2.1 (by rw [hj, e]))
      by_cases hlt : k < rl
      · have hkl : k < (ris ns).length := by have := HRL.out; omega
        obtain ⟨b4, o4, cap4', e4, _, _, c4⟩ := (SrcE.ofRow hrs).get k hkl
        simp only [Value.slice.injEq] at e4
        obtain ⟨rfl, hxe, rfl⟩ := e4
        clear hxe
        obtain ⟨s, hs⟩ : ∃ s, s = (ris ns)[k] := ⟨_, rfl⟩
        rw [← hs] at c4
        unfold natV at c4
        have hsr : s < ns.length ∧ key ns s ≠ 0 := mem_ris.1 (by rw [hs]; exact List.getElem_mem _)
        have hsn : s < n := by have := HL.out; omega
        have hsrc : SrcE natV wr (fun j => I j ∧ j < w.heap.size) (.slice ao n cap) ns := SrcE.kept (SrcE.same HS.out.low HKc.out) HKr.out (fun j hj _ e => by have := hf.2.2.2.2.2.1; omega)
        obtain ⟨b, o, cap', e5, _, _, c5⟩ := hsrc.get s hsr.1
        simp only [Value.slice.injEq] at e5
        obtain ⟨rfl, hxe, rfl⟩ := e5
        clear hxe
        rw [← key_get hsr.1] at c5
        unfold natV at c5
        obtain ⟨l, hl⟩ : ∃ l, l = key ns s := ⟨_, rfl⟩
        rw [← hl] at c5
        have hl15 : l ≤ mx := by rw [hl, HME.out]; exact key_le_mx ns s
        have hl0 : 0 < l := by omega
        have hsub : ((l : Int) - 1) = ((l - 1 : Nat) : Int) := by omega
        have hlc : l - 1 < (cntTo ns k).length := by rw [cntTo_length, ← HME.out]; omega
        obtain ⟨y, hy⟩ : ∃ y, y = (cntTo ns k)[l - 1] := ⟨_, rfl⟩
        have cy : wr.cell? ⟨gc, l - 1, none⟩ = some (.int .i64 (y : Nat)) := by rw [hy]; exact HR.out.cell (l - 1) hlc
        have fy := HR.out.frozen (l - 1)
        have hyl : y ≤ 288 := by
          rw [hy]
          simp only [cntTo, List.getElem_map, List.getElem_range]
          refine Nat.le_trans List.countP_le_length ?_
          rw [List.length_take]
          have := HRL.out; omega
        have HR6 : Hid (NRow w.heap.size (wr.setCell ⟨gc, l - 1, none⟩ (.int .i64 ((y : Int) + 1))) (.slice (some ⟨gc, 0, none⟩) mx mx) (cntTo ns (k + 1))) := hid (by
          have h := HR.out.lay (l - 1) (y + 1)
          subst hl hs hy
          rw [cntTo_succ ns k hkl hlc] at h
          exact h)
        clear hs hsr hsrc hl hy hlc hrs hf
        go_wp2_with fail
        go_region
        all_goals
          go_wp2_with fail
          go_roundg (gk - 1)
          case measure => omega
          case rel => exact ⟨k + 1, by omega, by omega, by go_num, HR6, (HKr.out.setCell ⟨gc, l - 1, none⟩ _ (.inl rfl)).drew⟩
      · have hk2 : k = rl := by omega
        subst hk2
        have HD : Hid (Dec wr d (.slice (some ⟨gc, 0, none⟩) mx mx) (.slice as' k caps) ns) := hid (by
          refine ⟨d0, d1, ?_, RowE.base hrs (Nat.zero_le _)⟩
          have h := HR.out
          rw [← HRL.out, cntTo_all] at h
          exact RowE.base h (Nat.zero_le _))
        have HDF : Hid (∀ j, DF d (.slice (some ⟨gc, 0, none⟩) mx mx) (.slice as' k caps) j → w.heap.size ≤ j) := hid (by
          rintro j (rfl | h | h)
          · exact hf.2.2.2.2.1
          · simp [Value.ownBlock] at h; have := hf.2.2.2.2.2.1; omega
          · exact hf.2.2.2.1.ge h)
        have HKK : Hid (Same w wr) := hid (HKc.out.then HKr.out (fun j hj e => by have := hf.2.2.2.2.2.1; omega))
        clear hf hrs
        go_wp2_with fail
        first
          | go_ret2
          | (go_quiet (fail); go_wp2_with fail; go_ret2)
        exact ⟨⟨_, _, _, rfl, HD.out, HDF.out⟩, HKK.out⟩

end Go.Proofs.YtofhlnpbflkdlaaDoor

/-
  The program's take, readStep.
-/
namespace Go.Proofs.YtofhlnpbflkdlaaDoor
open Go.RowKit

/-- Numbers of so many bits each, one behind the other. -/
def numsAt (ls : List Nat) (c : Nat) : List Nat → List Nat
  | [] => []
  | n :: r => numAt ls c n :: numsAt ls (c + n) r

theorem numsAt_snoc (ls : List Nat) (c : Nat) (ws : List Nat) (n : Nat) : numsAt ls c (ws ++ [n]) = numsAt ls c ws ++ [numAt ls (c + ws.sum) n] := by
  induction ws generalizing c with
  | nil => simp [numsAt]
  | cons a r ih => simp only [List.cons_append, numsAt, ih, List.sum_cons, Nat.add_assoc]

theorem numsAt_length (ls : List Nat) (c : Nat) (ws : List Nat) : (numsAt ls c ws).length = ws.length := by
  induction ws generalizing c with
  | nil => rfl
  | cons a r ih => simp [numsAt, ih]

theorem sum_take_le (ws : List Nat) (i : Nat) (hi : i < ws.length) : (ws.take i).sum + ws[i] ≤ ws.sum := by
  have h : (ws.take (i + 1)).sum + (ws.drop (i + 1)).sum = ws.sum := by rw [← List.sum_append, List.take_append_drop]
  rw [List.take_succ_eq_append_getElem hi, List.sum_append] at h
  simp at h
  omega

/-- The reader's number as one of the bits. -/
theorem num_bits (bs : List Nat) (hb : ∀ b ∈ bs, b < 256) (c n : Nat) (h : c + n ≤ 8 * bs.length) : n256 bs / 2 ^ c % 2 ^ n = numAt (ofBytes bs) c n := (left_n2 bs hb c n h).symm

/-- An answer of take: the numbers, or that there are too few bits. -/
def TakeA (w w' : World) (p : Nat) (s : Value) (bs : List Nat) (c : Nat) (ws : List Nat) (e : Ending) : Prop :=
  (c + ws.sum ≤ 8 * bs.length ∧ (∃ v', e = .returned (.tuple #[v', .int .i64 0]) ∧ NRow w.heap.size w' v' (numsAt (ofBytes bs) c ws)) ∧ St w' p s bs (c + ws.sum)) ∨
  (8 * bs.length < c + ws.sum ∧ e = .returned (.tuple #[.slice none 0 0, .int .i64 10]) ∧ ∃ c', c ≤ c' ∧ c' ≤ 8 * bs.length ∧ St w' p s bs c')

set_option maxRecDepth 100000 in
set_option maxHeartbeats 2000000 in
theorem ltake_any (w : World) (p c : Nat) (s : Value) (bs : List Nat) (v : Value) (I : Nat → Prop) (ws : List Nat) (hst : St w p s bs c) (hc : c ≤ 8 * bs.length) (hlen : bs.length ≤ 100000000) (hs : SrcE natV w I v ws) (hI : ∀ k, I k → k ≠ p) (hws : ∀ n ∈ ws, n ≤ 32) (hwl : ws.length ≤ 1000) :
    Calls Tryd.prog 69 #[.pointer (some ⟨p, 0, none⟩), v] w fun e w' => TakeA w w' p s bs c ws e ∧ Kept (· = p) w w' := by
  obtain ⟨ao, cap, rfl, hx1, hx2⟩ := id hs
  clear hx1 hx2
  have HS : Hid (SrcE natV w I (.slice ao ws.length cap) ws) := hs
  have HST : Hid (St w p s bs c) := hst
  have HP : Hid (∀ k, Fp p s k → k < w.heap.size) := hid (fun k h => hst.fp_lt h)
  have HWS : Hid (∀ n ∈ ws, n ≤ 32) := hws
  have HI : Hid (∀ k, I k → k ≠ p) := hI
  have HB : Hid (∀ b ∈ bs, b < 256) := hst.byte
  clear hs hst hws hI
  go_enter Tryd.func69, Tryd.ntmps69
  go_wp2_with fail
  go_loopg [6, 8, 9, 10, 13] ws.length (fun q zo _ _ _ zi wr => ∃ (i : Nat), ws.length - i ≤ q ∧ i ≤ ws.length ∧ zi = .int .i64 (i : Nat) ∧ Hid (c + (ws.take i).sum ≤ 8 * bs.length) ∧ Hid (NRow w.heap.size wr zo (numsAt (ofBytes bs) c (ws.take i))) ∧ Hid (St wr p s bs (c + (ws.take i).sum)) ∧ Hid (Kept (· = p) w wr))
  case atStart => exact ⟨0, by omega, by omega, rfl, hid (by simpa using hc), hid (by simpa [numsAt] using RowE.nil), hid (by simpa using HST.out), Kept.refl _ _⟩
  case round =>
    clear HST
    obtain ⟨i, hq, hi, rfl, HC, HV, HST, HK⟩ := hrel
    have hsz := HK.out.size
    by_cases hlt : i < ws.length
    · obtain ⟨b, o, cap', e, hIb, _, cx⟩ := (HS.out.kept HK.out (fun k h _ => HI.out k h)).get i hlt
      simp only [Value.slice.injEq] at e
      obtain ⟨rfl, hxe, rfl⟩ := e
      clear hxe hIb
      obtain ⟨n, hn⟩ : ∃ n, n = ws[i] := ⟨_, rfl⟩
      rw [← hn] at cx
      unfold natV at cx
      have hn32 : n ≤ 32 := by rw [hn]; exact HWS.out _ (List.getElem_mem _)
      obtain ⟨ci, hci⟩ : ∃ ci, ci = c + (ws.take i).sum := ⟨_, rfl⟩
      rw [← hci] at HC HST
      have hci0 : c ≤ ci := by omega
      have HSUM : Hid (c + (ws.take (i + 1)).sum = ci + n) := hid (by rw [List.take_succ_eq_append_getElem hlt, List.sum_append, hci, hn]; simp; omega)
      have HTOT : Hid (ci + n ≤ c + ws.sum) := hid (by have := sum_take_le ws i hlt; rw [hci, hn]; omega)
      have HNUM : Hid (numsAt (ofBytes bs) c (ws.take (i + 1)) = numsAt (ofBytes bs) c (ws.take i) ++ [numAt (ofBytes bs) ci n]) := hid (by rw [List.take_succ_eq_append_getElem hlt, numsAt_snoc, hci, hn])
      have hnl : (numsAt (ofBytes bs) c (ws.take i)).length ≤ 1000 := by rw [numsAt_length]; simp; omega
      clear hn hci
      by_cases hfit : ci + n ≤ 8 * bs.length
      · have HT := take_good p ci n s bs wr HST.out (by omega) hn32 hfit
        rw [num_bits bs HB.out ci n hfit] at HT
        obtain ⟨x, hx⟩ : ∃ x, x = numAt (ofBytes bs) ci n := ⟨_, rfl⟩
        have hxl : x < 2 ^ 32 := by
          rw [hx]
          exact Nat.lt_of_lt_of_le (numAt_lt _ (ofBytes_lt bs) _ _) (Nat.pow_le_pow_right (by decide) hn32)
        rw [← hx] at HT HNUM
        have hxw : wrap64 (x : Int) = (x : Int) := by unfold wrap64; omega
        have HF : Hid (ci + n ≤ 8 * bs.length) := hfit
        clear hx hfit
        go_wp2_with fail
        refine HT.mono ?_
        rintro e w2 ⟨rfl, hs2, hk2⟩
        have HST2 : Hid (St w2 p s bs (ci + n)) := hs2
        have HK2 : Hid (Kept (· = p) w w2) := hid (Kept.trans HK.out hk2 (fun _ _ h => h) (fun _ _ h => h))
        have HV2 : Hid (NRow w.heap.size w2 u6 (numsAt (ofBytes bs) c (ws.take i))) := hid (HV.out.kept hk2 (fun k e h => by have h1 := HV.out.ge e; have h2 := HP.out p (.inl rfl); omega))
        have hsz2 := HK2.out.size
        clear hs2 hk2 HT
        go_wp2_with (at_builtin; refine wpList_append_e _ natV natV_one w.heap.size 22 3 (natV 0) 8 Tryd.underlying22 Tryd.infoN rfl (by decide) rfl (.tmp 26) (.tmp 29) rfl u6 _ rfl (World.ownsRow.alloc HV2.out _) ⟨w2.heap.size, 0, none⟩ 1 1 [x] rfl rfl (cellsAt_new _ _ _) (by simp; omega) (by simp; omega) ?_; intro v5 w5 hr5 hg5; have HV5 : Hid (NRow w.heap.size w5 v5 (numsAt (ofBytes bs) c (ws.take (i + 1)))) := hid (by rw [HNUM.out]; exact hr5); have HK5' : Hid (Kept (fun k => u6.ownBlock = some k) w2 w5) := hid (((Kept.refl _ w2).alloc _).grown hg5 (fun _ e => .inl e)); have HST5 : Hid (St w5 p s bs (c + (ws.take (i + 1)).sum)) := hid (by rw [HSUM.out]; exact HST2.out.kept HK5'.out (fun k h e => by have h1 := HV2.out.ge e; have h2 := HP.out k h; omega)); have HK5 : Hid (Kept (· = p) w w5) := hid (Kept.trans HK2.out HK5'.out (fun _ _ h => h) (fun k hk e => by have := HV2.out.ge e; omega)); clear hr5 hg5)
        go_roundg (gk - 1)
        case measure => omega
        case rel => exact ⟨i + 1, by omega, by omega, by go_num, hid (by rw [HSUM.out]; exact HF.out), HV5, HST5, HK5⟩
      · have HT := take_end p ci n s bs wr HST.out HC.out (by omega) hn32 (by omega)
        have HE : Hid (8 * bs.length < c + ws.sum) := hid (by have := HTOT.out; omega)
        clear hfit
        go_wp2_with fail
        refine HT.mono ?_
        rintro e w2 ⟨rfl, m, hw2⟩
        subst hw2
        clear HT
        go_wp2_with fail
        go_ret2
        exact ⟨.inr ⟨HE.out, rfl, ci, hci0, HC.out, HST.out.drewN _⟩, HK.out.drewN _⟩
    · have hil : i = ws.length := by omega
      subst hil
      have e1 : ws.take ws.length = ws := List.take_of_length_le (Nat.le_refl _)
      have HC2 : Hid (c + ws.sum ≤ 8 * bs.length) := hid (by have h := HC.out; rw [e1] at h; exact h)
      have HV2 : Hid (NRow w.heap.size wr u6 (numsAt (ofBytes bs) c ws)) := hid (by have h := HV.out; rw [e1] at h; exact h)
      have HST2 : Hid (St wr p s bs (c + ws.sum)) := hid (by have h := HST.out; rw [e1] at h; exact h)
      clear HC HV HST e1
      go_wp2_with fail
      go_ret2
      exact ⟨.inl ⟨HC2.out, ⟨_, rfl, HV2.out⟩, HST2.out⟩, HK.out⟩

theorem rest_lt2 (bs : List Nat) (hb : ∀ b ∈ bs, b < 256) (c : Nat) (hc : c ≤ 8 * bs.length) : n256 bs / 2 ^ c < 2 ^ (8 * bs.length - c) := by
  have h := n256_lt bs hb
  rw [pow8] at h
  refine (Nat.div_lt_iff_lt_mul (Nat.two_pow_pos c)).2 ?_
  rw [← Nat.pow_add, show 8 * bs.length - c + c = 8 * bs.length by omega]
  exact h

/-- The decoder's Next as a function of the bits. -/
theorem lnext_any (w : World) (d : Nat) (vc vs : Value) (zs : List Int) (ns : List Nat) (p c : Nat) (s : Value) (bs : List Nat) (hg : Good zs ns) (hd : Dec w d vc vs ns) (hs : St w p s bs c) (hc : c ≤ 8 * bs.length) (hlen : bs.length ≤ 100000000) (hdis : ∀ k, DF d vc vs k → ¬ Fp p s k) :
    Calls Tryd.prog 93 #[.pointer (some ⟨d, 0, none⟩), .pointer (some ⟨p, 0, none⟩)] w fun e w' => e = .returned (.tuple #[.int .i64 ((nextF ns ((ofBytes bs).drop c)).1 : Nat), .int .i64 ((nextF ns ((ofBytes bs).drop c)).2.2 : Nat)]) ∧ St w' p s bs (c + (nextF ns ((ofBytes bs).drop c)).2.1) ∧ c + (nextF ns ((ofBytes bs).drop c)).2.1 ≤ 8 * bs.length ∧ Kept (· = p) w w' := by
  refine (next_any w d vc vs ns p c s bs hd (mx_le ns 15 hg.le) hg.max hs hc hlen hdis).mono ?_
  rintro e w' ⟨⟨sym, long, er, rfl, hans, hst⟩, hk⟩
  have hr := nextF_is ns ((ofBytes bs).drop c)
  obtain ⟨h1, h2, h3⟩ := next_same hg bs hs.byte c hc (rest_lt2 bs hs.byte c hc) hans hr
  rw [h1, h2, h3]
  refine ⟨rfl, hst, ?_, hk⟩
  rcases hans with ⟨_, _, _, h, _⟩ | ⟨_, _, h, _, _⟩ | ⟨_, _, h, _, _⟩
  · omega
  · omega
  · omega

/-- An answer of readStep. -/
def RStepA (w' : World) (p : Nat) (s : Value) (bs : List Nat) (c : Nat) (e : Ending) : Except Nat ((Nat × Nat) × Nat) → Prop
  | .error er => e = .returned (.tuple #[.agg #[.int .i64 0, .int .i64 0], .int .i64 (er : Nat)]) ∧ er ≠ 0 ∧ ∃ c', c ≤ c' ∧ c' ≤ 8 * bs.length ∧ St w' p s bs c'
  | .ok (x, c') => e = .returned (.tuple #[.agg #[.int .i64 (x.1 : Nat), .int .i64 (x.2 : Nat)], .int .i64 0]) ∧ c' ≤ 8 * bs.length ∧ St w' p s bs c'

end Go.Proofs.YtofhlnpbflkdlaaDoor

/-
  The program's readStep.
-/
namespace Go.Proofs.YtofhlnpbflkdlaaDoor
open Go.RowKit

set_option maxRecDepth 100000 in
set_option maxHeartbeats 2000000 in
theorem lstep_any (w : World) (d : Nat) (vc vs : Value) (zs : List Int) (ns : List Nat) (p c : Nat) (s : Value) (bs : List Nat) (hg : Good zs ns) (hd : Dec w d vc vs ns) (hs : St w p s bs c) (hc : c ≤ 8 * bs.length) (hlen : bs.length ≤ 100000000) (hdis : ∀ k, DF d vc vs k → ¬ Fp p s k) :
    Calls Tryd.prog 82 #[.pointer (some ⟨p, 0, none⟩), .pointer (some ⟨d, 0, none⟩)] w fun e w' => RStepA w' p s bs c e (stepF ns (ofBytes bs) c) ∧ Kept (· = p) w w' := by
  obtain ⟨W, hW⟩ : ∃ W, W = w.alloc (.cells #[.int .i64 0, .int .i64 0] 31) := ⟨_, rfl⟩
  have hk0 : Same w W := by rw [hW]; exact (Kept.refl _ w).alloc _
  have HN := lnext_any W d vc vs zs ns p c s bs hg (hd.kept hk0 (fun _ _ f => f)) (hs.kept hk0 (fun _ _ f => f)) hc hlen hdis
  have HK0 : Hid (Same w W) := hk0
  have HBK : Hid (Blk W w.heap.size #[.int .i64 0, .int .i64 0] 31) := hid (by rw [hW]; exact Blk.new w _ _)
  have hpw : p < w.heap.size := hs.lt
  have HB : Hid (∀ b ∈ bs, b < 256) := hs.byte
  obtain ⟨sym, long, er, hnf⟩ : ∃ a b c', nextF ns ((ofBytes bs).drop c) = (a, b, c') := ⟨_, _, _, rfl⟩
  rw [hnf] at HN
  simp only at HN
  have HF : Hid (stepF ns (ofBytes bs) c = if er ≠ 0 then .error er else if 8 * bs.length < c + long + xbits sym then .error 10 else .ok ((sym, numAt (ofBytes bs) (c + long) (xbits sym)), c + long + xbits sym)) := hid (by
    unfold stepF
    rw [hnf, ofBytes_length])
  have HSH := fun W2 => shape_any W2 (sym : Int)
  rw [widthM_nat] at HSH
  have hx7 := xbits_le sym
  obtain ⟨xb, hxb⟩ : ∃ x, x = xbits sym := ⟨_, rfl⟩
  rw [← hxb] at HF HSH hx7
  have HP : Hid (∀ k, Fp p s k → k < w.heap.size) := hid (fun k h => hs.fp_lt h)
  clear hd hs hdis hnf hk0 hxb
  go_enter Tryd.func82, Tryd.ntmps82
  go_wp2_with fail
  rw [← hW]
  clear hW
  refine HN.mono ?_
  rintro e w2 ⟨rfl, hs2, hc2, hk2⟩
  have HST2 : Hid (St w2 p s bs (c + long)) := hs2
  have HK2 : Hid (Kept (· = p) W w2) := hk2
  have HB2 : Hid (Blk w2 w.heap.size #[.int .i64 0, .int .i64 0] 31) := hid (HBK.out.kept hk2 (by omega))
  have f1 : w2.frozen? ⟨w.heap.size, 0, none⟩ = false := HB2.out.frozen 0
  have f2 : w2.frozen? ⟨w.heap.size, 1, none⟩ = false := HB2.out.frozen 1
  have c1 : w2.cell? ⟨w.heap.size, 0, none⟩ = some (.int .i64 0) := HB2.out.cell 0
  have c2 : w2.cell? ⟨w.heap.size, 1, none⟩ = some (.int .i64 0) := HB2.out.cell 1
  have hcl : c ≤ c + long := by omega
  have HKW : Hid (Kept (· = p) w w2) := hid (Kept.trans (HK0.out.mono (fun _ _ f => f.elim)) hk2 (fun _ _ h => h) (fun _ _ h => h))
  clear hs2 hk2 HN
  by_cases her : er = 0
  · have hed : ((er : Int) != 0) = false := by simp; omega
    have HER : Hid (er = 0) := her
    have her0 : (er : Int) = 0 := by omega
    clear her
    go_wp2_with fail
    refine (HSH _).mono ?_
    rintro e w3 ⟨rfl, hw3⟩
    subst hw3
    clear HSH
    by_cases hfit : c + long + xb ≤ 8 * bs.length
    · have HT := take_good p (c + long) xb s bs w3 HST2.out (by omega) (by omega) hfit
      rw [num_bits bs HB.out _ xb hfit] at HT
      obtain ⟨x, hx⟩ : ∃ x, x = numAt (ofBytes bs) (c + long) xb := ⟨_, rfl⟩
      have hxl : x < 2 ^ 7 := by
        rw [hx]
        exact Nat.lt_of_lt_of_le (numAt_lt _ (ofBytes_lt bs) _ _) (Nat.pow_le_pow_right (by decide) hx7)
      rw [← hx] at HT HF
      have hxw : wrap64 (x : Int) = (x : Int) := by unfold wrap64; omega
      have HE : Hid (stepF ns (ofBytes bs) c = .ok ((sym, x), c + long + xb)) := hid (by rw [HF.out, HER.out, if_neg (by simp), if_neg (by omega)])
      have HFIT : Hid (c + long + xb ≤ 8 * bs.length) := hfit
      clear hx hfit
      go_wp2_with fail
      refine HT.mono ?_
      rintro e w4 ⟨rfl, hs4, hk4⟩
      have HST4 : Hid (St w4 p s bs (c + long + xb)) := hs4
      have HB4 : Hid (Blk w4 w.heap.size #[.int .i64 0, .int .i64 0] 31) := hid (HB2.out.kept hk4 (by omega))
      have HK4 : Hid (Kept (· = p) w w4) := hid (Kept.trans HKW.out hk4 (fun _ _ h => h) (fun _ _ h => h))
      have f3 : w4.frozen? ⟨w.heap.size, 0, none⟩ = false := HB4.out.frozen 0
      have f4 : w4.frozen? ⟨w.heap.size, 1, none⟩ = false := HB4.out.frozen 1
      have c3 : w4.cell? ⟨w.heap.size, 0, none⟩ = some (.int .i64 0) := HB4.out.cell 0
      have c4 : w4.cell? ⟨w.heap.size, 1, none⟩ = some (.int .i64 0) := HB4.out.cell 1
      clear hs4 hk4 HT f1 f2 c1 c2
      go_wp2_with fail
      have HKF : Hid (Kept (· = w.heap.size) w4 ((w4.setCell ⟨w.heap.size, 0, none⟩ (.int .i64 (sym : Nat))).setCell ⟨w.heap.size, 1, none⟩ (.int .i64 (x : Nat)))) := hid (((Kept.refl (· = w.heap.size) w4).setCell ⟨w.heap.size, 0, none⟩ _ (.inl rfl)).setCell ⟨w.heap.size, 1, none⟩ _ (.inl rfl))
      refine bodyPost_ret (v := .tuple #[.agg #[.int .i64 (sym : Nat), .int .i64 (x : Nat)], .int .i64 0]) (by simp [results, Tryd.results82, go_sem, c3, c4]) rfl ?_
      refine ⟨?_, Kept.trans HK4.out HKF.out (fun _ _ h => h) (fun k hk e => by omega)⟩
      rw [HE.out]
      exact ⟨rfl, HFIT.out, HST4.out.kept HKF.out (fun k h e => by have := HP.out k h; omega)⟩
    · have HT := take_end p (c + long) xb s bs w3 HST2.out hc2 (by omega) (by omega) (by omega)
      have HE : Hid (stepF ns (ofBytes bs) c = .error 10) := hid (by rw [HF.out, HER.out, if_neg (by simp), if_pos (by omega)])
      clear hfit
      go_wp2_with fail
      refine HT.mono ?_
      rintro e w4 ⟨rfl, m, hw4⟩
      subst hw4
      clear HT
      go_wp2_with fail
      have HKF : Hid (Kept (· = w.heap.size) w3 (((w3.drewN m).setCell ⟨w.heap.size, 0, none⟩ (.int .i64 0)).setCell ⟨w.heap.size, 1, none⟩ (.int .i64 0))) := hid ((((Kept.refl (· = w.heap.size) w3).drewN m).setCell ⟨w.heap.size, 0, none⟩ _ (.inl rfl)).setCell ⟨w.heap.size, 1, none⟩ _ (.inl rfl))
      refine bodyPost_ret (v := .tuple #[.agg #[.int .i64 0, .int .i64 0], .int .i64 10]) (by simp [results, Tryd.results82, go_sem, c1, c2]) rfl ?_
      refine ⟨?_, Kept.trans HKW.out HKF.out (fun _ _ h => h) (fun k hk e => by omega)⟩
      rw [HE.out]
      exact ⟨rfl, by decide, c + long, hcl, hc2, HST2.out.kept HKF.out (fun k h e => by have := HP.out k h; omega)⟩
  · have hed : ((er : Int) != 0) = true := by simp; omega
    have HE : Hid (stepF ns (ofBytes bs) c = .error er) := hid (by rw [HF.out, if_pos her])
    have HER : Hid (er ≠ 0) := her
    clear her
    go_wp2_with fail
    have HKF : Hid (Kept (· = w.heap.size) w2 ((w2.setCell ⟨w.heap.size, 0, none⟩ (.int .i64 0)).setCell ⟨w.heap.size, 1, none⟩ (.int .i64 0))) := hid (((Kept.refl (· = w.heap.size) w2).setCell ⟨w.heap.size, 0, none⟩ _ (.inl rfl)).setCell ⟨w.heap.size, 1, none⟩ _ (.inl rfl))
    refine bodyPost_ret (v := .tuple #[.agg #[.int .i64 0, .int .i64 0], .int .i64 (er : Nat)]) (by simp [results, Tryd.results82, go_sem, c1, c2]) rfl ?_
    refine ⟨?_, Kept.trans HKW.out HKF.out (fun _ _ h => h) (fun k hk e => by omega)⟩
    rw [HE.out]
    exact ⟨rfl, HER.out, c + long, hcl, hc2, HST2.out.kept HKF.out (fun k h e => by have := HP.out k h; omega)⟩

end Go.Proofs.YtofhlnpbflkdlaaDoor

/-
  The program's readSteps.
-/
namespace Go.Proofs.YtofhlnpbflkdlaaDoor
open Go.RowKit

/-- An answer of readSteps. -/
def RStepsA (w w' : World) (p : Nat) (s : Value) (bs : List Nat) (c : Nat) (e : Ending) : Except Nat (List Nat × Nat) → Prop
  | .error er => e = .returned (.tuple #[.slice none 0 0, .int .i64 (er : Nat)]) ∧ er ≠ 0 ∧ ∃ c', c ≤ c' ∧ c' ≤ 8 * bs.length ∧ St w' p s bs c'
  | .ok (l, c') => (∃ v', e = .returned (.tuple #[v', .int .i64 0]) ∧ NRow w.heap.size w' v' l) ∧ c' ≤ 8 * bs.length ∧ St w' p s bs c'

set_option maxRecDepth 100000 in
set_option maxHeartbeats 2000000 in
theorem lsteps_any (w : World) (d : Nat) (vc vs : Value) (zs : List Int) (ns : List Nat) (p c : Nat) (s : Value) (bs : List Nat) (N : Nat) (hg : Good zs ns) (hd : Dec w d vc vs ns) (hs : St w p s bs c) (hc : c ≤ 8 * bs.length) (hlen : bs.length ≤ 100000000) (hdis : ∀ k, DF d vc vs k → ¬ Fp p s k) (hN : N ≤ 1000) :
    Calls Tryd.prog 71 #[.pointer (some ⟨p, 0, none⟩), .pointer (some ⟨d, 0, none⟩), .int .i64 (N : Nat)] w fun e w' => RStepsA w w' p s bs c e (bodyF ns (ofBytes bs) N N [] c) ∧ Kept (· = p) w w' := by
  have HG : Hid (Good zs ns) := hg
  have HD : Hid (Dec w d vc vs ns) := hd
  have HST : Hid (St w p s bs c) := hs
  have HDIS : Hid (∀ k, DF d vc vs k → ¬ Fp p s k) := hdis
  have HP : Hid (∀ k, Fp p s k → k < w.heap.size) := hid (fun k h => hs.fp_lt h)
  clear hg hd hs hdis
  go_enter Tryd.func71, Tryd.ntmps71
  go_wp2_with fail
  go_loopg [8, 9, 10] N (fun q zo _ _ wr => ∃ (l : List Nat) (f ci : Nat), N - l.length ≤ q ∧ N - l.length ≤ f ∧ c ≤ ci ∧ ci ≤ 8 * bs.length ∧ Hid (bodyF ns (ofBytes bs) N N [] c = bodyF ns (ofBytes bs) N f l ci) ∧ Hid (l.length ≤ N ∧ ∀ x ∈ l, x ≤ 15) ∧ Hid (NRow w.heap.size wr zo l) ∧ Hid (St wr p s bs ci) ∧ Hid (Kept (· = p) w wr))
  case atStart => exact ⟨[], N, c, by simp, by simp, by omega, hc, rfl, hid ⟨by simp, by simp⟩, RowE.nil, HST, Kept.refl _ _⟩
  case round =>
    clear HST
    obtain ⟨l, f, ci, hq, hf, hci, hci8, HBF, HLL, HV, HST, HK⟩ := hrel
    have hsz := HK.out.size
    have hl1 : l.length ≤ 1000000 := by have := HLL.out.1; omega
    obtain ⟨a8, cap8, hv8, _⟩ := HV.out.shape
    subst hv8
    have HDW : Hid (Dec wr d vc vs ns) := hid (HD.out.kept HK.out (fun k h e => HDIS.out k h (.inl e)))
    have HRS := lstep_any wr d vc vs zs ns p ci s bs HG.out HDW.out HST.out hci8 hlen HDIS.out
    have HMS := fun (W : World) (x y : Int) => mayStand_any W x y l.length N hl1
    have HSAYS := fun (W : World) (x y : Int) (hr : NRow w.heap.size W (.slice a8 l.length cap8) l) (hB : w.heap.size ≤ W.heap.size) (hm : mayB (x, y) l.length N) => say_any W w.heap.size _ l x y N hr hB hl1 hm
    by_cases hlt : l.length < N
    · obtain ⟨f, rfl⟩ : ∃ g, f = g + 1 := ⟨f - 1, by omega⟩
      obtain ⟨L, hL⟩ : ∃ L, L = l.length := ⟨_, rfl⟩
      have HL : Hid (L = l.length) := hL
      cases hsf : stepF ns (ofBytes bs) ci with
      | error er =>
        rw [hsf] at HRS
        have HE : Hid (bodyF ns (ofBytes bs) N N [] c = .error er) := hid (by rw [HBF.out, bodyF_err hlt hsf])
        rw [← hL] at HV hq hf hl1 hlt HMS HSAYS ⊢
        clear hsf hL HMS HSAYS
        go_wp2_with fail
        refine HRS.mono ?_
        rintro e w2 ⟨⟨rfl, her, c', hc1, hc2, hs2⟩, hk2⟩
        have HST2 : Hid (St w2 p s bs c') := hs2
        have HK2 : Hid (Kept (· = p) w w2) := hid (Kept.trans HK.out hk2 (fun _ _ h => h) (fun _ _ h => h))
        have hed : ((er : Int) != 0) = true := by simp; omega
        have HER : Hid (er ≠ 0) := her
        have hcc : c ≤ c' := by omega
        have HP2 : Hid (∀ k, Fp p s k → k < w2.heap.size) := hid (fun k h => by have := HP.out k h; have := HK2.out.size; omega)
        clear hs2 hk2 HRS her
        go_wp2_with fail
        go_ret2
        refine ⟨?_, HK2.out.alloc _⟩
        rw [HE.out]
        exact ⟨rfl, HER.out, c', hcc, hc2, HST2.out.kept ((Kept.refl (fun _ => False) w2).alloc _) (fun _ _ f => f)⟩
      | ok r =>
        obtain ⟨⟨sy, x⟩, c'⟩ := r
        rw [hsf] at HRS
        have HBS : Hid (bodyF ns (ofBytes bs) N N [] c = match withM l ((sy : Int), (x : Int)) N with | none => .error 41 | some m => bodyF ns (ofBytes bs) N f m c') := hid (by rw [HBF.out, bodyF_step hlt hsf]; rfl)
        have hcc : ci ≤ c' := stepF_ge hsf
        have HMS2 := fun W => HMS W (sy : Int) (x : Int)
        have HSA2 := fun W => HSAYS W (sy : Int) (x : Int)
        rw [← hL] at HV hq hf hl1 hlt HMS2 HSA2 ⊢
        clear hsf hL HMS HSAYS
        go_wp2_with fail
        refine HRS.mono ?_
        rintro e w2 ⟨⟨rfl, hc2, hs2⟩, hk2⟩
        have HST2 : Hid (St w2 p s bs c') := hs2
        have HK2 : Hid (Kept (· = p) w w2) := hid (Kept.trans HK.out hk2 (fun _ _ h => h) (fun _ _ h => h))
        have HV2 : Hid (NRow w.heap.size w2 (.slice a8 L cap8) l) := hid (HV.out.kept hk2 (fun k e h => by have h1 := HV.out.ge e; have h2 := HP.out p (.inl rfl); omega))
        have hsz2 := HK2.out.size
        clear hs2 hk2 HRS HST HK HV HDW
        by_cases hmay : mayB ((sy : Int), (x : Int)) L N
        · have HM : Hid (withM l ((sy : Int), (x : Int)) N = some (l ++ List.replicate (leastM (sy : Int) + (x : Int).toNat) (sayV (sy : Int) l))) := hid (withM_may (by rw [← HL.out]; exact hmay))
          have HMAY : Hid (mayB ((sy : Int), (x : Int)) L N) := hmay
          clear hmay
          obtain ⟨m, hm⟩ : ∃ m, m = l ++ List.replicate (leastM (sy : Int) + (x : Int).toNat) (sayV (sy : Int) l) := ⟨_, rfl⟩
          rw [← hm] at HM HSA2
          have hgr := withM_grows HM.out HLL.out.2
          have HBM : Hid (bodyF ns (ofBytes bs) N N [] c = bodyF ns (ofBytes bs) N f m c') := hid (by rw [HBS.out, HM.out])
          have HMM : Hid (m.length ≤ N ∧ ∀ x ∈ m, x ≤ 15) := hid hgr.2
          have hLm : L < m.length := by rw [HL.out]; exact hgr.1
          clear hm hgr
          go_wp2_with fail
          refine (HMS2 _).mono ?_
          rintro e w3 ⟨he, hk3⟩
          have he2 := he.yes HMAY.out
          subst he2
          have c3 : w3.cell? ⟨w2.heap.size, 0, none⟩ = some (.int .i64 (sy : Nat)) := hk3.cell (by simp) (fun f => f)
          have c4 : w3.cell? ⟨w2.heap.size, 1, none⟩ = some (.int .i64 (x : Nat)) := hk3.cell (by simp) (fun f => f)
          have HK3 : Hid (Same w2 w3) := hid (Same.trans ((Kept.refl _ w2).alloc _) hk3)
          have hsz3 : w.heap.size ≤ w3.heap.size := by have h2 := HK3.out.size; omega
          have HSY := HSA2 w3 (HV2.out.same HK3.out) hsz3 HMAY.out
          clear he hk3 HMS2 HSA2
          go_wp2_with fail
          refine HSY.mono ?_
          rintro e w4 ⟨v4, rfl, hr4, hk4⟩
          have HV4 : Hid (NRow w.heap.size w4 v4 m) := hr4
          have HST4 : Hid (St w4 p s bs c') := hid ((HST2.out.kept HK3.out (fun _ _ f => f)).kept hk4 (fun k h e => by have := HP.out k h; unfold Over at e; omega))
          have HK4 : Hid (Kept (· = p) w w4) := hid (Kept.trans (Kept.trans HK2.out HK3.out (fun _ _ h => h) (fun _ _ f => f.elim)) hk4 (fun _ _ h => h) (fun k hk e => by unfold Over at e; omega))
          clear hr4 hk4 HSY c3 c4
          go_wp2_with fail
          go_roundg (gk - 1)
          case measure => omega
          case rel => exact ⟨m, f, c', by omega, by omega, by omega, hc2, HBM, HMM, HV4, HST4, HK4⟩
        · have HM : Hid (withM l ((sy : Int), (x : Int)) N = none) := hid (withM_no (by rw [← HL.out]; exact hmay))
          have HMAY : Hid (¬ mayB ((sy : Int), (x : Int)) L N) := hmay
          have HE : Hid (bodyF ns (ofBytes bs) N N [] c = .error 41) := hid (by rw [HBS.out, HM.out])
          have hccc : c ≤ c' := by omega
          clear hmay
          go_wp2_with fail
          refine (HMS2 _).mono ?_
          rintro e w3 ⟨he, hk3⟩
          have he2 := he.no HMAY.out
          subst he2
          have HK3 : Hid (Same w2 w3) := hid (Same.trans ((Kept.refl _ w2).alloc _) hk3)
          clear he hk3 HMS2 HSA2
          go_wp2_with fail
          go_ret2
          refine ⟨?_, Kept.trans HK2.out HK3.out (fun _ _ h => h) (fun _ _ f => f.elim)⟩
          rw [HE.out]
          exact ⟨rfl, by decide, c', hccc, hc2, HST2.out.kept HK3.out (fun _ _ f => f)⟩
    · have HE : Hid (bodyF ns (ofBytes bs) N N [] c = .ok (l, ci)) := hid (by rw [HBF.out, bodyF_end (by omega)])
      obtain ⟨L, hL⟩ : ∃ L, L = l.length := ⟨_, rfl⟩
      rw [← hL] at HV hlt ⊢
      clear hL HMS HSAYS HRS hq hf
      go_wp2_with fail
      go_ret2
      refine ⟨?_, HK.out⟩
      rw [HE.out]
      exact ⟨⟨_, rfl, HV.out⟩, hci8, HST.out⟩

end Go.Proofs.YtofhlnpbflkdlaaDoor

/-
  The program's readCodes.
-/
namespace Go.Proofs.YtofhlnpbflkdlaaDoor
open Go.RowKit

/-- The order of the codes' lengths, as the program's variable holds it. -/
def Tab (w : World) : Prop := ∀ i, i < 19 → w.cell? ⟨0, i, none⟩ = some (.int .i64 ((ord.getD i 0 : Nat) : Int))

theorem Tab.kept {F : Nat → Prop} {w w' : World} (h : Tab w) (hk : Kept F w w') (hF : ¬ F 0) : Tab w' := fun i hi => hk.cell (h i hi) hF

theorem numsAt_three (ls : List Nat) (c n i : Nat) (hi : i < (numsAt ls c (List.replicate n 3)).length) : (numsAt ls c (List.replicate n 3))[i] = numAt ls (c + 3 * i) 3 := by
  induction n generalizing c i with
  | zero => simp [numsAt] at hi
  | succ n ih =>
    cases i with
    | zero => simp [List.replicate_succ, numsAt]
    | succ i =>
      simp only [List.replicate_succ, numsAt, List.getElem_cons_succ]
      rw [ih (c + 3) i (by simpa [List.replicate_succ, numsAt] using hi)]
      congr 1
      omega

theorem nrow_of_l {B : Nat} {w : World} {v : Value} {xs : List Nat} (h : RowC B 3 1 natL w v xs) : NRow B w v xs := by
  unfold RowC at h
  rw [natL_flat] at h
  exact h

theorem sum_three (n : Nat) : (List.replicate n 3).sum = 3 * n := by
  induction n with
  | zero => rfl
  | succ n ih => rw [List.replicate_succ, List.sum_cons, ih]; omega

theorem chk_good (l : List Nat) (hl : l.length = 19) (h7 : ∀ x ∈ l, x ≤ 7) (h : chkN l = 0) : Good (l.map (fun (n : Nat) => (n : Int))) l := by
  have hg := good_of (zs := l.map (fun (n : Nat) => (n : Int))) (by rw [chk_codes l hl h7]; exact h)
  have e : (l.map (fun (n : Nat) => (n : Int))).map Int.toNat = l := by
    rw [List.map_map]
    conv => rhs; rw [← List.map_id l]
    exact List.map_congr_left (fun x _ => by simp)
  rw [e] at hg
  exact hg

/-- An answer of readCodes. -/
def RCodesA (w w' : World) (p : Nat) (s : Value) (bs : List Nat) (c come : Nat) (e : Ending) : Prop :=
  (8 * bs.length < c + 3 * come ∧ e = .returned (.tuple #[.pointer none, .int .i64 10]) ∧ ∃ c', c ≤ c' ∧ c' ≤ 8 * bs.length ∧ St w' p s bs c') ∨
  (c + 3 * come ≤ 8 * bs.length ∧ St w' p s bs (c + 3 * come) ∧
    ((chkN (codesF (ofBytes bs) c come) ≠ 0 ∧ e = .returned (.tuple #[.pointer none, .int .i64 (chkN (codesF (ofBytes bs) c come) : Nat)])) ∨
      (chkN (codesF (ofBytes bs) c come) = 0 ∧ ∃ d vc vs, e = .returned (.tuple #[.pointer (some ⟨d, 0, none⟩), .int .i64 0]) ∧ Dec w' d vc vs (codesF (ofBytes bs) c come) ∧ ∀ k, DF d vc vs k → w.heap.size ≤ k)))

set_option maxRecDepth 100000 in
set_option maxHeartbeats 2000000 in
theorem lcodes_any (w : World) (p c : Nat) (s : Value) (bs : List Nat) (come : Nat) (hs : St w p s bs c) (hc : c ≤ 8 * bs.length) (hlen : bs.length ≤ 100000000) (h19 : come ≤ 19) (hT : Tab w) (hpg : p ≠ 0) :
    Calls Tryd.prog 70 #[.pointer (some ⟨p, 0, none⟩), .int .i64 (come : Nat)] w fun e w' => RCodesA w w' p s bs c come e ∧ Kept (· = p) w w' := by
  obtain ⟨W, hW⟩ : ∃ W, W = w.alloc (.cells #[.int .i64 3] 3) := ⟨_, rfl⟩
  have hk0 : Same w W := by rw [hW]; exact (Kept.refl _ w).alloc _
  have HK0 : Hid (Same w W) := hk0
  have HRP := repeatN_any W ⟨w.heap.size, 0, none⟩ 3 come (by rw [hW]; exact cellsAt_new w 3 (natV 3)) (by omega)
  have HST : Hid (St W p s bs c) := hid (hs.kept hk0 (fun _ _ f => f))
  have HT : Hid (Tab W) := hid (hT.kept hk0 (fun f => f))
  have HP : Hid (∀ k, Fp p s k → k < w.heap.size) := hid (fun k h => hs.fp_lt h)
  have hpw : p < w.heap.size := hs.lt
  have hsW := hk0.size
  clear hs hT hk0
  go_enter Tryd.func70, Tryd.ntmps70
  go_wp2_with fail
  rw [← hW]
  clear hW
  refine HRP.mono ?_
  rintro e w1 ⟨g, rfl, hr1, hk1⟩
  have hr1n := nrow_of_l hr1
  have hTK := ltake_any w1 p c s bs (.slice (some ⟨g, 0, none⟩) come come) _ (List.replicate come 3) (HST.out.kept hk1 (fun _ _ f => f)) hc hlen (SrcE.ofRow hr1n) (fun k e => by have := hr1n.ge e; omega) (fun n hn => by have := List.eq_of_mem_replicate hn; omega) (by simp; omega)
  have HK1 : Hid (Same w w1) := hid (Same.trans HK0.out hk1)
  have HT1 : Hid (Tab w1) := hid (HT.out.kept hk1 (fun f => f))
  clear hr1 hk1 HRP hr1n HST HT
  go_wp2_with fail
  refine hTK.mono ?_
  rintro e w2 ⟨hta, hk2⟩
  have HK2 : Hid (Kept (· = p) w w2) := hid (Kept.trans (HK1.out.mono (fun _ _ f => f.elim)) hk2 (fun _ _ h => h) (fun _ _ h => h))
  have HT2 : Hid (Tab w2) := hid (HT1.out.kept hk2 (fun e => hpg e.symm))
  have hsz1 := HK1.out.size
  have hsz2 := HK2.out.size
  have hsz12 := hk2.size
  clear hk2 hTK
  rcases hta with ⟨hfit, ⟨v2, rfl, hr2⟩, hs2⟩ | ⟨hbig, rfl, c', hc1, hc2, hs2⟩
  · have HF : Hid (c + 3 * come ≤ 8 * bs.length) := by rw [sum_three] at hfit; exact hfit
    have HS2 : Hid (St w2 p s bs (c + 3 * come)) := by rw [sum_three] at hs2; exact hs2
    have HR2 : Hid (NRow w1.heap.size w2 v2 (numsAt (ofBytes bs) c (List.replicate come 3))) := hr2
    have hnl := numsAt_length (ofBytes bs) c (List.replicate come 3)
    rw [List.length_replicate] at hnl
    obtain ⟨a2, cap2, hv2, _⟩ := hr2.shape
    subst hv2
    rw [hnl] at HR2 ⊢
    clear hfit hs2 hr2
    have HNL : Hid ((numsAt (ofBytes bs) c (List.replicate come 3)).length = come) := hnl
    clear hnl
    go_wp2_with (at_make; refine wpList_make_e _ natV 0 w2.heap.size 22 3 8 Tryd.underlying22 Tryd.infoN rfl (by decide) rfl _ _ rfl _ _ _ _ 19 rfl rfl rfl rfl (by decide) (Nat.le_refl _) ?_; intro w3 hr3 hg3 hs3; have HR3 : Hid (NRow w2.heap.size w3 (.slice (some ⟨w2.heap.size, 0, none⟩) 19 19) (codesF (ofBytes bs) c 0)) := hid hr3; have HK3 : Hid (Same w2 w3) := hid ((Kept.refl _ w2).grown hg3 (fun j e => by cases e)); clear hr3 hg3)
    go_loopg [9, 10, 25] come (fun q _ _ zi wr => ∃ (i : Nat), come - i ≤ q ∧ i ≤ come ∧ zi = .int .i64 (i : Nat) ∧ Hid (NRow w2.heap.size wr (.slice (some ⟨w2.heap.size, 0, none⟩) 19 19) (codesF (ofBytes bs) c i)) ∧ Hid (Same w2 wr))
    case atStart => exact ⟨0, by omega, by omega, rfl, HR3, HK3⟩
    case round =>
      clear HR3 HK3 hs3
      obtain ⟨i, hq, hi, rfl, HV, HK⟩ := hrel
      by_cases hlt : i < come
      · obtain ⟨b, o, cap', e, _, _, cx⟩ := (SrcE.ofRow (HR2.out.same HK.out)).get i (by rw [HNL.out]; exact hlt)
        rw [HNL.out] at e
        simp only [Value.slice.injEq] at e
        obtain ⟨rfl, hxe, rfl⟩ := e
        clear hxe
        rw [numsAt_three] at cx
        obtain ⟨x, hx⟩ : ∃ x, x = numAt (ofBytes bs) (c + 3 * i) 3 := ⟨_, rfl⟩
        rw [← hx] at cx
        unfold natV at cx
        have ct := (HT2.out.kept HK.out (fun f => f)) i (by omega)
        have ho18 := ord_le i (by omega)
        obtain ⟨oi, hoi⟩ : ∃ x, x = ord.getD i 0 := ⟨_, rfl⟩
        rw [← hoi] at ct ho18
        have cl : wr.cell? ⟨w2.heap.size, oi, none⟩ = some (natV (codesF (ofBytes bs) c i)[oi]!) := by
          have h := HV.out.cell oi (by rw [codesF_length]; omega)
          rw [h]
          congr 2
          rw [getElem!_pos]
        have fl : wr.frozen? ⟨w2.heap.size, oi, none⟩ = false := HV.out.frozen oi
        have HV2 : Hid (NRow w2.heap.size (wr.setCell ⟨w2.heap.size, oi, none⟩ (.int .i64 (x : Nat))) (.slice (some ⟨w2.heap.size, 0, none⟩) 19 19) (codesF (ofBytes bs) c (i + 1))) := hid (by
          have h := HV.out.lay oi x
          rw [hx, hoi] at h ⊢
          exact h)
        have HKN : Hid (Same w2 (wr.setCell ⟨w2.heap.size, oi, none⟩ (.int .i64 (x : Nat)))) := hid (HK.out.setCell _ _ (.inr (Nat.le_refl _)))
        generalize (codesF (ofBytes bs) c i)[oi]! = old at cl
        clear hx hoi
        go_wp2_with fail
        go_roundg (gk - 1)
        case measure => omega
        case rel => exact ⟨i + 1, by omega, by omega, by go_num, HV2, HKN⟩
      · have hic : i = come := by omega
        subst hic
        clear hq hlt
        have hcl := codesF_length (ofBytes bs) c i
        have hc7 := codesF_le (ofBytes bs) (ofBytes_lt bs) c i
        have hsrc : SrcE intV wr _ (.slice (some ⟨w2.heap.size, 0, none⟩) 19 19) ((codesF (ofBytes bs) c i).map (fun (n : Nat) => (n : Int))) := (SrcE.ofRow HV.out).recode (by rw [List.map_map]; rfl)
        have HSTF : Hid (St wr p s bs (c + 3 * i)) := hid (HS2.out.kept HK.out (fun _ _ f => f))
        by_cases hch : chkN (codesF (ofBytes bs) c i) = 0
        · have HN := new_good wr _ _ _ _ hsrc (chk_good _ hcl hc7 hch) (by rw [chk_codes _ hcl hc7]; exact hch)
          have HCH : Hid (chkN (codesF (ofBytes bs) c i) = 0) := hch
          have hszr := HK.out.size
          clear hch hsrc hcl hc7
          go_wp2_with fail
          refine HN.mono ?_
          rintro e w5 ⟨⟨d, vc, vs, rfl, hdec, hdf⟩, hk5⟩
          have HDEC : Hid (Dec w5 d vc vs (codesF (ofBytes bs) c i)) := hdec
          have HDF : Hid (∀ k, DF d vc vs k → w.heap.size ≤ k) := hid (fun k h => by have := hdf k h; omega)
          have HK5 : Hid (Same wr w5) := hk5
          clear hdec hdf hk5 HN
          go_wp2_with fail
          go_ret2
          exact ⟨.inr ⟨HF.out, HSTF.out.kept HK5.out (fun _ _ f => f), .inr ⟨HCH.out, d, vc, vs, rfl, HDEC.out, HDF.out⟩⟩, Kept.trans (Kept.trans HK2.out HK.out (fun _ _ h => h) (fun _ _ f => f.elim)) HK5.out (fun _ _ h => h) (fun _ _ f => f.elim)⟩
        · have HN := new_bad wr _ _ _ hsrc (by simp [hcl]) (by rw [chk_codes _ hcl hc7]; exact hch)
          rw [chk_codes _ hcl hc7] at HN
          have HCH : Hid (chkN (codesF (ofBytes bs) c i) ≠ 0) := hch
          clear hch hsrc hcl hc7
          go_wp2_with fail
          refine HN.mono ?_
          rintro e w5 ⟨rfl, hk5⟩
          have HK5 : Hid (Same wr w5) := hk5
          clear hk5 HN
          go_wp2_with fail
          go_ret2
          exact ⟨.inr ⟨HF.out, HSTF.out.kept HK5.out (fun _ _ f => f), .inl ⟨HCH.out, rfl⟩⟩, Kept.trans (Kept.trans HK2.out HK.out (fun _ _ h => h) (fun _ _ f => f.elim)) HK5.out (fun _ _ h => h) (fun _ _ f => f.elim)⟩
  · have HB : Hid (8 * bs.length < c + 3 * come) := by rw [sum_three] at hbig; exact hbig
    have HS2 : Hid (St w2 p s bs c') := hs2
    clear hbig hs2
    go_wp2_with fail
    go_ret2
    exact ⟨.inl ⟨HB.out, rfl, c', hc1, hc2, HS2.out⟩, HK2.out⟩

end Go.Proofs.YtofhlnpbflkdlaaDoor

/-
  Merging packages: levels of weights, what is taken of each, and what the lengths then measure and cost.
-/
namespace Go.Proofs.YtofhlnpbflkdlaaDoor

abbrev Up (l : List Nat) : Prop := l.Pairwise (· ≤ ·)

/-- Symbols and packages by rising weight, symbols first where weights are alike. -/
def mg : List Nat → List Nat → List (Nat × Bool)
  | l, [] => l.map (fun a => (a, false))
  | l, p :: ps => (l.takeWhile (fun a => decide (a ≤ p))).map (fun a => (a, false)) ++ (p, true) :: mg (l.dropWhile (fun a => decide (a ≤ p))) ps

theorem fst_leaf (l : List Nat) : (l.map (fun a => (a, false))).map (·.1) = l := by
  induction l with
  | nil => rfl
  | cons a r ih => rw [List.map_cons, List.map_cons, ih]

theorem mg_nil (l : List Nat) : mg l [] = l.map (fun a => (a, false)) := by simp [mg]
theorem mg_leaf {a p : Nat} (l ps : List Nat) (h : a ≤ p) : mg (a :: l) (p :: ps) = (a, false) :: mg l (p :: ps) := by simp [mg, h]
theorem mg_pack {a p : Nat} (l ps : List Nat) (h : ¬ a ≤ p) : mg (a :: l) (p :: ps) = (p, true) :: mg (a :: l) ps := by simp [mg, h]
theorem mg_none (p : Nat) (ps : List Nat) : mg [] (p :: ps) = (p, true) :: mg [] ps := by simp [mg]

theorem mg_ind {motive : List Nat → List Nat → Prop} (h1 : ∀ l, motive l []) (h2 : ∀ a l p ps, a ≤ p → motive l (p :: ps) → motive (a :: l) (p :: ps))
    (h3 : ∀ a l p ps, ¬ a ≤ p → motive (a :: l) ps → motive (a :: l) (p :: ps)) (h4 : ∀ p ps, motive [] ps → motive [] (p :: ps)) (l ps : List Nat) : motive l ps := by
  induction ps generalizing l with
  | nil => exact h1 l
  | cons p ps ih =>
    induction l with
    | nil => exact h4 p ps (ih [])
    | cons a l ihl =>
      by_cases h : a ≤ p
      · exact h2 a l p ps h ihl
      · exact h3 a l p ps h (ih (a :: l))

theorem mg_leaves (l ps : List Nat) : ((mg l ps).filter (fun x => !x.2)).map (·.1) = l := by
  refine mg_ind (motive := fun l ps => ((mg l ps).filter (fun x => !x.2)).map (·.1) = l) ?_ ?_ ?_ ?_ l ps
  · intro l
    rw [mg_nil, List.filter_eq_self.2 (by simp)]
    exact fst_leaf l
  · intro a l p ps h ih; rw [mg_leaf _ _ h, List.filter_cons_of_pos (by simp), List.map_cons, ih]
  · intro a l p ps h ih; rw [mg_pack _ _ h, List.filter_cons_of_neg (by simp), ih]
  · intro p ps ih; rw [mg_none, List.filter_cons_of_neg (by simp), ih]

theorem mg_packs (l ps : List Nat) : ((mg l ps).filter (fun x => x.2)).map (·.1) = ps := by
  refine mg_ind (motive := fun l ps => ((mg l ps).filter (fun x => x.2)).map (·.1) = ps) ?_ ?_ ?_ ?_ l ps
  · intro l; rw [mg_nil, List.filter_eq_nil_iff.2 (by simp)]; rfl
  · intro a l p ps h ih; rw [mg_leaf _ _ h, List.filter_cons_of_neg (by simp), ih]
  · intro a l p ps h ih; rw [mg_pack _ _ h, List.filter_cons_of_pos (by simp), List.map_cons, ih]
  · intro p ps ih; rw [mg_none, List.filter_cons_of_pos (by simp), List.map_cons, ih]

theorem mg_perm (l ps : List Nat) : ((mg l ps).map (·.1)).Perm (l ++ ps) := by
  refine mg_ind (motive := fun l ps => ((mg l ps).map (·.1)).Perm (l ++ ps)) ?_ ?_ ?_ ?_ l ps
  · intro l; rw [mg_nil, fst_leaf, List.append_nil]
  · intro a l p ps h ih; rw [mg_leaf _ _ h]; exact ih.cons a
  · intro a l p ps h ih
    rw [mg_pack _ _ h, List.map_cons]
    exact (ih.cons p).trans (List.perm_middle (l₁ := a :: l)).symm
  · intro p ps ih; rw [mg_none]; exact ih.cons p

theorem mg_length (l ps : List Nat) : (mg l ps).length = l.length + ps.length := by
  have := (mg_perm l ps).length_eq
  simpa using this

theorem mg_up (l ps : List Nat) (hl : Up l) (hp : Up ps) : Up ((mg l ps).map (·.1)) := by
  revert hl hp
  refine mg_ind (motive := fun l ps => Up l → Up ps → Up ((mg l ps).map (·.1))) ?_ ?_ ?_ ?_ l ps
  · intro l hl _; rw [mg_nil, fst_leaf]; exact hl
  · intro a l p ps h ih hl hp
    have ha := List.pairwise_cons.1 hl
    have hb := List.pairwise_cons.1 hp
    rw [mg_leaf _ _ h, List.map_cons]
    refine List.pairwise_cons.2 ⟨fun x hx => ?_, ih ha.2 hp⟩
    rcases List.mem_append.1 ((mg_perm l (p :: ps)).mem_iff.1 hx) with h1 | h1
    · exact ha.1 x h1
    · rcases List.mem_cons.1 h1 with rfl | h1
      · exact h
      · exact Nat.le_trans h (hb.1 x h1)
  · intro a l p ps h ih hl hp
    have ha := List.pairwise_cons.1 hl
    have hb := List.pairwise_cons.1 hp
    rw [mg_pack _ _ h, List.map_cons]
    refine List.pairwise_cons.2 ⟨fun x hx => ?_, ih hl hb.2⟩
    rcases List.mem_append.1 ((mg_perm (a :: l) ps).mem_iff.1 hx) with h1 | h1
    · rcases List.mem_cons.1 h1 with rfl | h1
      · omega
      · have := ha.1 x h1; omega
    · exact hb.1 x h1
  · intro p ps ih hl hp
    have hb := List.pairwise_cons.1 hp
    rw [mg_none, List.map_cons]
    refine List.pairwise_cons.2 ⟨fun x hx => ?_, ih hl hb.2⟩
    rcases List.mem_append.1 ((mg_perm [] ps).mem_iff.1 hx) with h1 | h1
    · simp at h1
    · exact hb.1 x h1

/-- How many packages, and how many symbols, are among the first T. -/
def pk (X : List (Nat × Bool)) (T : Nat) : Nat := (X.take T).countP (fun x => x.2)
def lf (X : List (Nat × Bool)) (T : Nat) : Nat := (X.take T).countP (fun x => !x.2)

theorem pk_lf (X : List (Nat × Bool)) (T : Nat) (h : T ≤ X.length) : lf X T + pk X T = T := by
  have e : (X.take T).length = T := by simp; omega
  have := List.length_eq_countP_add_countP (fun x : Nat × Bool => x.2) (l := X.take T)
  have h2 : lf X T = (X.take T).countP (fun a => decide ¬(a.2 = true)) := by
    unfold lf
    congr 1
    funext x
    cases x.2 <;> rfl
  unfold pk at *
  omega

/-- A package that is taken comes behind all symbols that are no heavier. -/
theorem mg_before (l ps : List Nat) (hl : Up l) (k T : Nat) (hk : k < ps.length) (hT : k + 1 ≤ pk (mg l ps) T) : l.countP (fun a => decide (a ≤ ps[k])) ≤ lf (mg l ps) T := by
  revert hl k T
  refine mg_ind (motive := fun l ps => Up l → ∀ (k T : Nat) (hk : k < ps.length), k + 1 ≤ pk (mg l ps) T → l.countP (fun a => decide (a ≤ ps[k])) ≤ lf (mg l ps) T) ?_ ?_ ?_ ?_ l ps
  · intro l _ k T hk; simp at hk
  · intro a l p ps h ih hl k T hk hT
    rw [mg_leaf _ _ h] at hT ⊢
    cases T with
    | zero => simp [pk] at hT
    | succ T =>
      have h1 : k + 1 ≤ pk (mg l (p :: ps)) T := by simpa [pk] using hT
      have h2 := ih (List.pairwise_cons.1 hl).2 k T hk h1
      have h3 : lf ((a, false) :: mg l (p :: ps)) (T + 1) = lf (mg l (p :: ps)) T + 1 := by simp [lf]
      rw [h3]
      have := List.countP_cons (p := fun a => decide (a ≤ (p :: ps)[k])) (a := a) (l := l)
      rw [this]
      split <;> omega
  · intro a l p ps h ih hl k T hk hT
    rw [mg_pack _ _ h] at hT ⊢
    cases T with
    | zero => simp [pk] at hT
    | succ T =>
      have h3 : lf ((p, true) :: mg (a :: l) ps) (T + 1) = lf (mg (a :: l) ps) T := by simp [lf]
      rw [h3]
      cases k with
      | zero =>
        have : (a :: l).countP (fun x => decide (x ≤ (p :: ps)[0])) = 0 := by
          refine List.countP_eq_zero.2 (fun x hx hc => ?_)
          have hc : x ≤ p := by simpa using hc
          rcases List.mem_cons.1 hx with rfl | hx
          · exact h hc
          · have := (List.pairwise_cons.1 hl).1 x hx; omega
        rw [this]; omega
      | succ k =>
        have h1 : k + 1 ≤ pk (mg (a :: l) ps) T := by have h4 : k + 1 + 1 ≤ pk (mg (a :: l) ps) T + 1 := by simpa [pk] using hT
                                                      omega
        exact ih hl k T (by simpa using hk) h1
  · intro p ps ih hl k T hk hT
    simp

/-- The weights of pairs. -/
def pairW : List Nat → List Nat
  | a :: b :: r => (a + b) :: pairW r
  | _ => []

theorem pairW_length : ∀ l : List Nat, (pairW l).length = l.length / 2
  | [] => rfl
  | [_] => by simp [pairW]
  | a :: b :: r => by simp only [pairW, List.length_cons, pairW_length r]; omega

theorem pairW_get : ∀ (l : List Nat) (k : Nat) (h : k < (pairW l).length), (pairW l)[k] = l[2 * k]'(by have := pairW_length l; omega) + l[2 * k + 1]'(by have := pairW_length l; omega)
  | [], k, h => by simp [pairW] at h
  | [_], k, h => by simp [pairW] at h
  | a :: b :: r, 0, h => by simp [pairW]
  | a :: b :: r, k + 1, h => by
    have h2 : k < (pairW r).length := by simpa [pairW] using h
    have := pairW_get r k h2
    simp only [pairW, List.getElem_cons_succ, this, show 2 * (k + 1) = 2 * k + 1 + 1 by omega]

theorem pairW_sum : ∀ (l : List Nat) (p : Nat), 2 * p ≤ l.length → ((pairW l).take p).sum = (l.take (2 * p)).sum
  | l, 0, _ => by simp
  | [], p + 1, h => by simp at h
  | [_], p + 1, h => by simp at h; omega
  | a :: b :: r, p + 1, h => by
    have := pairW_sum r p (by simp at h; omega)
    rw [show 2 * (p + 1) = 2 * p + 1 + 1 by omega]
    simp only [pairW, List.take_succ_cons, List.sum_cons, this]
    omega

theorem pairW_up (l : List Nat) (h : Up l) : Up (pairW l) := by
  refine List.pairwise_iff_getElem.2 (fun i j hi hj hij => ?_)
  rw [pairW_get l i hi, pairW_get l j hj]
  have hl := pairW_length l
  have g := fun (x y : Nat) (hx : x < l.length) (hy : y < l.length) (hxy : x < y) => List.pairwise_iff_getElem.1 h x y hx hy hxy
  have h1 := g (2 * i) (2 * j) (by omega) (by omega) (by omega)
  have h2 := g (2 * i + 1) (2 * j + 1) (by omega) (by omega) (by omega)
  omega

/-- The levels, from the longest length on. -/
def lev (ws : List Nat) : Nat → List (Nat × Bool)
  | 0 => mg ws []
  | t + 1 => mg ws (pairW ((lev ws t).map (·.1)))

theorem lev_up (ws : List Nat) (h : Up ws) : ∀ t, Up ((lev ws t).map (·.1))
  | 0 => mg_up ws [] h List.Pairwise.nil
  | t + 1 => mg_up ws _ h (pairW_up _ (lev_up ws h t))

theorem lev_length_succ (ws : List Nat) (t : Nat) : (lev ws (t + 1)).length = ws.length + (lev ws t).length / 2 := by
  simp [lev, mg_length, pairW_length]

theorem lev_length_zero (ws : List Nat) : (lev ws 0).length = ws.length := by simp [lev, mg_nil]

/-- How many there are on a level. -/
theorem lev_length (ws : List Nat) (t : Nat) : 2 ^ t * (2 * ws.length) ≤ 2 ^ t * (lev ws t).length + ws.length + (2 ^ t - 1) ∧ (lev ws t).length ≤ 2 * ws.length := by
  induction t with
  | zero => rw [lev_length_zero]; simp; omega
  | succ t ih =>
    rw [lev_length_succ, Nat.pow_succ]
    have hp : 0 < 2 ^ t := Nat.two_pow_pos t
    generalize (lev ws t).length = L at *
    generalize ws.length = m at *
    generalize 2 ^ t = q at *
    have h1 : L ≤ 2 * (L / 2) + 1 := by omega
    have h2 : q * L ≤ q * (2 * (L / 2) + 1) := Nat.mul_le_mul_left _ h1
    have e1 : q * 2 * (2 * m) = 2 * (q * (2 * m)) := by rw [Nat.mul_assoc, ← Nat.mul_left_comm]
    have e2 : q * 2 * (m + L / 2) = q * (2 * m) + q * (2 * (L / 2)) := by rw [Nat.mul_assoc, ← Nat.mul_add]; congr 1; omega
    have e3 : q * (2 * (L / 2) + 1) = q * (2 * (L / 2)) + q := by rw [Nat.mul_add, Nat.mul_one]
    refine ⟨?_, by omega⟩
    omega

/-- At the top there are as many as are taken. -/
theorem lev_top (ws : List Nat) (t : Nat) (h : ws.length ≤ 2 ^ (t + 1)) : 2 * ws.length - 2 ≤ (lev ws t).length := by
  have h1 := (lev_length ws t).1
  have hp : 0 < 2 ^ t := Nat.two_pow_pos t
  rw [Nat.pow_succ] at h
  generalize (lev ws t).length = L at *
  generalize ws.length = m at *
  generalize 2 ^ t = q at *
  refine Classical.byContradiction (fun hc => ?_)
  have h2 : L + 3 ≤ 2 * m := by omega
  have h3 : q * (L + 3) ≤ q * (2 * m) := Nat.mul_le_mul_left _ h2
  rw [Nat.mul_add] at h3
  omega

theorem pk_le (ws : List Nat) (t T : Nat) : 2 * pk (lev ws (t + 1)) T ≤ (lev ws t).length := by
  have h1 : pk (lev ws (t + 1)) T ≤ (lev ws (t + 1)).countP (fun x => x.2) := by
    unfold pk
    exact List.Sublist.countP_le (List.take_sublist _ _)
  have h2 : (lev ws (t + 1)).countP (fun x => x.2) = (pairW ((lev ws t).map (·.1))).length := by
    rw [← mg_packs ws (pairW ((lev ws t).map (·.1))), List.length_map, List.countP_eq_length_filter]
    rfl
  rw [pairW_length, List.length_map] at h2
  omega

theorem pk_zero (ws : List Nat) (T : Nat) : pk (lev ws 0) T = 0 := by
  unfold pk
  refine List.countP_eq_zero.2 (fun x hx => ?_)
  have := List.mem_of_mem_take hx
  simp [lev, mg_nil] at this
  obtain ⟨a, _, rfl⟩ := this
  simp

/-- The symbols among the first T are the first ones. -/
theorem take_leaves (l ps : List Nat) (T : Nat) : (((mg l ps).take T).filter (fun x => !x.2)).map (·.1) = l.take (lf (mg l ps) T) := by
  have h := mg_leaves l ps
  have e : (mg l ps).filter (fun x => !x.2) = ((mg l ps).take T).filter (fun x => !x.2) ++ ((mg l ps).drop T).filter (fun x => !x.2) := by rw [← List.filter_append, List.take_append_drop]
  rw [e, List.map_append] at h
  generalize hA : (((mg l ps).take T).filter (fun x => !x.2)).map (·.1) = A at *
  have hl : lf (mg l ps) T = A.length := by rw [← hA, List.length_map, lf, List.countP_eq_length_filter]
  rw [hl, ← h, List.take_left']
  rfl

theorem take_packs (l ps : List Nat) (T : Nat) : (((mg l ps).take T).filter (fun x => x.2)).map (·.1) = ps.take (pk (mg l ps) T) := by
  have h := mg_packs l ps
  have e : (mg l ps).filter (fun x => x.2) = ((mg l ps).take T).filter (fun x => x.2) ++ ((mg l ps).drop T).filter (fun x => x.2) := by rw [← List.filter_append, List.take_append_drop]
  rw [e, List.map_append] at h
  generalize hA : (((mg l ps).take T).filter (fun x => x.2)).map (·.1) = A at *
  have hl : pk (mg l ps) T = A.length := by rw [← hA, List.length_map, pk, List.countP_eq_length_filter]
  rw [hl, ← h, List.take_left']
  rfl

theorem sum_split (X : List (Nat × Bool)) : (X.map (·.1)).sum = ((X.filter (fun x => !x.2)).map (·.1)).sum + ((X.filter (fun x => x.2)).map (·.1)).sum := by
  induction X with
  | nil => rfl
  | cons a r ih =>
    obtain ⟨a, b⟩ := a
    cases b <;> simp at ih ⊢ <;> omega

theorem lf_le (l ps : List Nat) (T : Nat) : lf (mg l ps) T ≤ l.length := by
  have h : lf (mg l ps) T ≤ (mg l ps).countP (fun x => !x.2) := by
    unfold lf
    exact List.Sublist.countP_le (List.take_sublist _ _)
  have h2 := congrArg List.length (mg_leaves l ps)
  rw [List.length_map, ← List.countP_eq_length_filter] at h2
  omega

theorem lev_lf_le (ws : List Nat) (t T : Nat) : lf (lev ws t) T ≤ ws.length := by
  cases t with
  | zero => exact lf_le ws [] T
  | succ t => exact lf_le ws _ T

/-- What is taken of a level weighs as much as its symbols and what is taken below. -/
theorem lev_sum (ws : List Nat) (t T : Nat) : (((lev ws (t + 1)).take T).map (·.1)).sum = (ws.take (lf (lev ws (t + 1)) T)).sum + (((lev ws t).take (2 * pk (lev ws (t + 1)) T)).map (·.1)).sum := by
  rw [sum_split]
  have h1 := take_leaves ws (pairW ((lev ws t).map (·.1))) T
  have h2 := take_packs ws (pairW ((lev ws t).map (·.1))) T
  have h3 := pairW_sum ((lev ws t).map (·.1)) (pk (lev ws (t + 1)) T) (by rw [List.length_map]; exact pk_le ws t T)
  rw [show lev ws (t + 1) = mg ws (pairW ((lev ws t).map (·.1))) from rfl] at *
  rw [h1, h2, h3, List.map_take]

theorem lev_sum_zero (ws : List Nat) (T : Nat) : (((lev ws 0).take T).map (·.1)).sum = (ws.take (lf (lev ws 0) T)).sum := by
  rw [sum_split]
  have h1 := take_leaves ws [] T
  have h2 := take_packs ws [] T
  rw [show lev ws 0 = mg ws [] from rfl, h1, h2]
  simp

/-- Fewer symbols are taken below. -/
theorem lf_down (ws : List Nat) (hu : Up ws) (t T : Nat) : lf (lev ws t) (2 * pk (lev ws (t + 1)) T) ≤ lf (lev ws (t + 1)) T := by
  generalize hp : pk (lev ws (t + 1)) T = p at *
  cases p with
  | zero => simp [lf]
  | succ p =>
    have hle := pk_le ws t T
    rw [hp] at hle
    have hpl : p < (pairW ((lev ws t).map (·.1))).length := by rw [pairW_length, List.length_map]; omega
    have h1 := mg_before ws (pairW ((lev ws t).map (·.1))) hu p T hpl (by rw [show mg ws (pairW ((lev ws t).map (·.1))) = lev ws (t + 1) from rfl, hp]; exact Nat.le_refl _)
    refine Nat.le_trans ?_ h1
    have hget := pairW_get ((lev ws t).map (·.1)) p hpl
    have hup := lev_up ws hu t
    have htl : ∃ ps, lev ws t = mg ws ps := by
      cases t with
      | zero => exact ⟨[], rfl⟩
      | succ t => exact ⟨_, rfl⟩
    obtain ⟨ps, hps⟩ := htl
    have hlv := take_leaves ws ps (2 * (p + 1))
    rw [← hps] at hlv
    have hall : ∀ a ∈ ws.take (lf (lev ws t) (2 * (p + 1))), decide (a ≤ (pairW ((lev ws t).map (·.1)))[p]) = true := by
      intro a ha
      rw [← hlv] at ha
      obtain ⟨x, hx, rfl⟩ := List.mem_map.1 ha
      have hx2 := (List.mem_filter.1 hx).1
      obtain ⟨j, hj, rfl⟩ := List.getElem_of_mem hx2
      simp only [List.length_take] at hj
      rw [List.getElem_take]
      have hlast : ((lev ws t)[j]'(by omega)).1 ≤ ((lev ws t).map (·.1))[2 * p + 1]'(by rw [List.length_map]; omega) := by
        by_cases e : j = 2 * p + 1
        · subst e; simp
        · have := List.pairwise_iff_getElem.1 hup j (2 * p + 1) (by rw [List.length_map]; omega) (by rw [List.length_map]; omega) (by omega)
          simpa using this
      simp only [decide_eq_true_eq]
      omega
    have h2 : (ws.take (lf (lev ws t) (2 * (p + 1)))).countP (fun a => decide (a ≤ (pairW ((lev ws t).map (·.1)))[p])) = lf (lev ws t) (2 * (p + 1)) := by
      rw [List.countP_eq_length.2 hall, List.length_take]
      have := lev_lf_le ws t (2 * (p + 1))
      omega
    rw [← h2]
    exact List.Sublist.countP_le (List.take_sublist _ _)

/-- What a symbol's length grows by, from a level on down. -/
def gain (ws : List Nat) : Nat → Nat → Nat → Nat
  | 0, T, i => if i < lf (lev ws 0) T then 1 else 0
  | t + 1, T, i => (if i < lf (lev ws (t + 1)) T then 1 else 0) + gain ws t (2 * pk (lev ws (t + 1)) T) i

/-- What a symbol's places measure. -/
def wid (ws : List Nat) : Nat → Nat → Nat → Nat
  | 0, T, i => if i < lf (lev ws 0) T then 1 else 0
  | t + 1, T, i => (if i < lf (lev ws (t + 1)) T then 2 ^ (t + 1) else 0) + wid ws t (2 * pk (lev ws (t + 1)) T) i

theorem gain_le (ws : List Nat) (t T i : Nat) : gain ws t T i ≤ t + 1 := by
  induction t generalizing T with
  | zero => unfold gain; split <;> omega
  | succ t ih =>
    have := ih (2 * pk (lev ws (t + 1)) T)
    unfold gain
    split <;> omega

theorem gain_mono (ws : List Nat) (t T i j : Nat) (h : i ≤ j) : gain ws t T j ≤ gain ws t T i := by
  induction t generalizing T with
  | zero => unfold gain; split <;> split <;> omega
  | succ t ih =>
    have := ih (2 * pk (lev ws (t + 1)) T)
    unfold gain
    split <;> split <;> omega

theorem gain_none (ws : List Nat) (hu : Up ws) (t T i : Nat) (h : lf (lev ws t) T ≤ i) : gain ws t T i = 0 ∧ wid ws t T i = 0 := by
  induction t generalizing T with
  | zero => unfold gain wid; rw [if_neg (by omega)]; exact ⟨rfl, rfl⟩
  | succ t ih =>
    have h2 := lf_down ws hu t T
    have := ih (2 * pk (lev ws (t + 1)) T) (by omega)
    unfold gain wid
    rw [if_neg (by omega), if_neg (by omega), this.1, this.2]
    exact ⟨rfl, rfl⟩

theorem wid_gain (ws : List Nat) (hu : Up ws) (t T i : Nat) : wid ws t T i + 2 ^ (t + 1 - gain ws t T i) = 2 ^ (t + 1) := by
  induction t generalizing T with
  | zero => unfold wid gain; split <;> simp
  | succ t ih =>
    by_cases h : i < lf (lev ws (t + 1)) T
    · have := ih (2 * pk (lev ws (t + 1)) T)
      have hg := gain_le ws t (2 * pk (lev ws (t + 1)) T) i
      unfold wid gain
      rw [if_pos h, if_pos h, show t + 1 + 1 - (1 + gain ws t (2 * pk (lev ws (t + 1)) T) i) = t + 1 - gain ws t (2 * pk (lev ws (t + 1)) T) i by omega, Nat.pow_succ 2 (t + 1)]
      omega
    · have := gain_none ws hu (t + 1) T i (by omega)
      rw [this.1, this.2]
      simp

/-- Sums over the first m. -/
def sumI (m : Nat) (f : Nat → Nat) : Nat := ((List.range m).map f).sum
theorem sumI_succ (m : Nat) (f : Nat → Nat) : sumI (m + 1) f = sumI m f + f m := by simp [sumI, List.range_succ]
theorem sumI_add (m : Nat) (f g : Nat → Nat) : sumI m (fun i => f i + g i) = sumI m f + sumI m g := by
  induction m with
  | zero => rfl
  | succ m ih => rw [sumI_succ, sumI_succ, sumI_succ, ih]; omega
theorem sumI_const (m c : Nat) : sumI m (fun _ => c) = m * c := by
  induction m with
  | zero => simp [sumI]
  | succ m ih => rw [sumI_succ, ih, Nat.add_mul, Nat.one_mul]
theorem sumI_congr (m : Nat) (f g : Nat → Nat) (h : ∀ i, i < m → f i = g i) : sumI m f = sumI m g := by
  unfold sumI
  congr 1
  exact List.map_congr_left (fun i hi => h i (by simpa using hi))
theorem sumI_first (m a c : Nat) (h : a ≤ m) : sumI m (fun i => if i < a then c else 0) = a * c := by
  induction m with
  | zero => have : a = 0 := by omega
            subst this; simp [sumI]
  | succ m ih =>
    rw [sumI_succ]
    by_cases e : a = m + 1
    · subst e
      rw [sumI_congr m _ (fun _ => c) (fun i hi => if_pos (by omega)), sumI_const, if_pos (by omega), Nat.add_mul, Nat.one_mul]
    · rw [ih (by omega), if_neg (by omega)]; omega
theorem sumI_take (ws : List Nat) (a : Nat) (h : a ≤ ws.length) : sumI ws.length (fun i => if i < a then ws.getD i 0 else 0) = (ws.take a).sum := by
  have key : ∀ m, m ≤ ws.length → sumI m (fun i => if i < a then ws.getD i 0 else 0) = (ws.take (min m a)).sum := by
    intro m
    induction m with
    | zero => intro _; simp [sumI]
    | succ m ih =>
      intro hm
      rw [sumI_succ, ih (by omega)]
      by_cases e : m < a
      · rw [if_pos e, show min (m + 1) a = min m a + 1 by omega, show min m a = m by omega, List.take_succ_eq_append_getElem (by omega), List.sum_append]
        simp [List.getD, show m < ws.length by omega]
      · rw [if_neg e, show min (m + 1) a = min m a by omega]; omega
  rw [key ws.length (Nat.le_refl _), show min ws.length a = a by omega]

theorem wid_sum (ws : List Nat) (t T : Nat) (hT : T ≤ (lev ws t).length) : sumI ws.length (wid ws t T) = T * 2 ^ t := by
  induction t generalizing T with
  | zero =>
    have h1 := pk_lf (lev ws 0) T hT
    rw [pk_zero] at h1
    have e : wid ws 0 T = fun i => if i < lf (lev ws 0) T then 1 else 0 := by funext i; rfl
    rw [e, sumI_first _ _ _ (lev_lf_le ws 0 T)]
    simp; omega
  | succ t ih =>
    have h1 := pk_lf (lev ws (t + 1)) T hT
    have h2 := ih (2 * pk (lev ws (t + 1)) T) (pk_le ws t T)
    have e : wid ws (t + 1) T = fun i => (if i < lf (lev ws (t + 1)) T then 2 ^ (t + 1) else 0) + wid ws t (2 * pk (lev ws (t + 1)) T) i := by funext i; rfl
    rw [e, sumI_add, sumI_first _ _ _ (lev_lf_le ws (t + 1) T), h2]
    have e2 : 2 * pk (lev ws (t + 1)) T * 2 ^ t = pk (lev ws (t + 1)) T * 2 ^ (t + 1) := by rw [Nat.pow_succ, Nat.mul_comm 2, Nat.mul_assoc, Nat.mul_comm 2]
    rw [e2, ← Nat.add_mul, h1]

/-- The lengths measure 1. -/
theorem gain_kraft (ws : List Nat) (hu : Up ws) (t : Nat) (h2 : 2 ≤ ws.length) (hm : ws.length ≤ 2 ^ (t + 1)) : sumI ws.length (fun i => 2 ^ (t + 1 - gain ws t (2 * ws.length - 2) i)) = 2 ^ (t + 1) := by
  have h1 := wid_sum ws t (2 * ws.length - 2) (lev_top ws t hm)
  have h3 : sumI ws.length (fun i => wid ws t (2 * ws.length - 2) i + 2 ^ (t + 1 - gain ws t (2 * ws.length - 2) i)) = ws.length * 2 ^ (t + 1) := by
    rw [sumI_congr _ _ (fun _ => 2 ^ (t + 1)) (fun i _ => wid_gain ws hu t _ i), sumI_const]
  rw [sumI_add] at h3
  have h4 : sumI ws.length (fun i => wid ws t (2 * ws.length - 2) i) = (2 * ws.length - 2) * 2 ^ t := h1
  rw [h4] at h3
  have e : (2 * ws.length - 2) * 2 ^ t = (ws.length - 1) * 2 ^ (t + 1) := by
    rw [show 2 * ws.length - 2 = (ws.length - 1) * 2 by omega, Nat.pow_succ, Nat.mul_assoc, Nat.mul_comm 2]
  rw [e] at h3
  have e2 : ws.length * 2 ^ (t + 1) = (ws.length - 1) * 2 ^ (t + 1) + 2 ^ (t + 1) := by
    conv => lhs; rw [show ws.length = (ws.length - 1) + 1 by omega, Nat.add_mul, Nat.one_mul]
  omega

theorem sumI_ge (m : Nat) (f : Nat → Nat) (i : Nat) (h : i < m) : f i ≤ sumI m f := by
  induction m with
  | zero => omega
  | succ m ih =>
    rw [sumI_succ]
    by_cases e : i = m
    · subst e; omega
    · have := ih (by omega); omega

theorem sumI_two (m : Nat) (f : Nat → Nat) (i j : Nat) (hij : i < j) (h : j < m) : f i + f j ≤ sumI m f := by
  induction m with
  | zero => omega
  | succ m ih =>
    rw [sumI_succ]
    by_cases e : j = m
    · subst e; have := sumI_ge j f i hij; omega
    · have := ih (by omega); omega

/-- Each has a length from 1 on. -/
theorem gain_pos (ws : List Nat) (hu : Up ws) (t : Nat) (h2 : 2 ≤ ws.length) (hm : ws.length ≤ 2 ^ (t + 1)) (i : Nat) (hi : i < ws.length) : 1 ≤ gain ws t (2 * ws.length - 2) i := by
  refine Classical.byContradiction (fun hc => ?_)
  have h0 : gain ws t (2 * ws.length - 2) i = 0 := by omega
  have hk := gain_kraft ws hu t h2 hm
  have hpos := fun j => Nat.two_pow_pos (t + 1 - gain ws t (2 * ws.length - 2) j)
  by_cases e : i = 0
  · have := sumI_two ws.length (fun i => 2 ^ (t + 1 - gain ws t (2 * ws.length - 2) i)) 0 1 (by omega) (by omega)
    have h3 := hpos 1
    subst e
    simp only [h0, Nat.sub_zero] at this
    omega
  · have := sumI_two ws.length (fun i => 2 ^ (t + 1 - gain ws t (2 * ws.length - 2) i)) 0 i (by omega) hi
    have h3 := hpos 0
    simp only [h0, Nat.sub_zero] at this
    omega

/-- The lengths cost what is taken at the top. -/
theorem gain_cost (ws : List Nat) (t T : Nat) : sumI ws.length (fun i => ws.getD i 0 * gain ws t T i) = (((lev ws t).take T).map (·.1)).sum := by
  induction t generalizing T with
  | zero =>
    rw [lev_sum_zero, ← sumI_take ws _ (lev_lf_le ws 0 T)]
    refine sumI_congr _ _ _ (fun i _ => ?_)
    unfold gain
    split <;> simp
  | succ t ih =>
    rw [lev_sum, ← sumI_take ws _ (lev_lf_le ws (t + 1) T), ← ih, ← sumI_add]
    refine sumI_congr _ _ _ (fun i _ => ?_)
    conv => lhs; unfold gain
    rw [Nat.mul_add]
    split <;> simp

end Go.Proofs.YtofhlnpbflkdlaaDoor

/-
  Rows of items (a weight; a package or a symbol).
-/
namespace Go.Proofs.YtofhlnpbflkdlaaDoor
open Go.RowKit

def itC (x : Nat × Bool) : List Value := [.int .i64 (x.1 : Int), .bool x.2]
def cellsOfI (its : List (Nat × Bool)) : List Value := its.flatMap itC

theorem cellsOfI_length (its : List (Nat × Bool)) : (cellsOfI its).length = its.length * 2 := by
  induction its with
  | nil => rfl
  | cons a r ih => simp [cellsOfI, itC] at *; omega

theorem cellsOfI_get (its : List (Nat × Bool)) (j : Nat) (h : j < its.length) : (cellsOfI its)[j * 2]? = some (.int .i64 (its[j].1 : Int)) ∧ (cellsOfI its)[j * 2 + 1]? = some (.bool its[j].2) := by
  induction its generalizing j with
  | nil => simp at h
  | cons a r ih =>
    cases j with
    | zero => simp [cellsOfI, itC]
    | succ j =>
      have := ih j (by simpa using h)
      have e : cellsOfI (a :: r) = .int .i64 (a.1 : Int) :: .bool a.2 :: cellsOfI r := rfl
      rw [e, show (j + 1) * 2 = j * 2 + 1 + 1 by omega]
      simpa using this

theorem cellsOfI_one (its : List (Nat × Bool)) : ∀ u ∈ cellsOfI its, u.oneCell' = true := by
  intro u hu
  simp only [cellsOfI, List.mem_flatMap, itC, List.mem_cons, List.not_mem_nil, or_false] at hu
  obtain ⟨x, _, rfl | rfl⟩ := hu <;> rfl

abbrev TRow (B : Nat) (w : World) (v : Value) (its : List (Nat × Bool)) : Prop := w.ownsRow B 130 2 v its.length (cellsOfI its)

theorem TRow.kept {F : Nat → Prop} {B : Nat} {w w' : World} {v : Value} {its : List (Nat × Bool)} (h : TRow B w v its) (hk : Kept F w w') (hn : ∀ k, v.ownBlock = some k → ¬ F k) : TRow B w' v its := by
  refine ⟨h.1, ?_⟩
  rcases h.2 with hn' | ⟨g, cap, cur, rfl, hb, hgg, rest⟩
  · exact .inl hn'
  · refine .inr ⟨g, cap, cur, rfl, hb, ?_, rest⟩
    rw [hk.block g (Array.getElem?_eq_some_iff.1 hgg).1 (hn g rfl)]
    exact hgg

theorem TRow.nil {B : Nat} {w : World} : TRow B w (.slice none 0 0) [] := World.ownsRow_nil w B _ 2
theorem TRow.lt {B : Nat} {w : World} {v : Value} {its : List (Nat × Bool)} (h : TRow B w v its) {k : Nat} (hk : v.ownBlock = some k) : k < w.heap.size := (World.ownsRow.lt h k hk).2
theorem TRow.ge {B : Nat} {w : World} {v : Value} {its : List (Nat × Bool)} (h : TRow B w v its) {k : Nat} (hk : v.ownBlock = some k) : B ≤ k := (World.ownsRow.lt h k hk).1

theorem TRow.shape {B : Nat} {w : World} {v : Value} {its : List (Nat × Bool)} (h : TRow B w v its) : ∃ ao cap, v = .slice ao its.length cap ∧ its.length ≤ cap ∧ (its ≠ [] → ∃ g, ao = some ⟨g, 0, none⟩ ∧ g < w.heap.size ∧ ∀ j (_ : j < its.length), w.cell? ⟨g, j * 2, none⟩ = some (.int .i64 (its[j].1 : Int)) ∧ w.cell? ⟨g, j * 2 + 1, none⟩ = some (.bool its[j].2)) := by
  rcases id h.2 with ⟨rfl, hn⟩ | ⟨g, cap, cur, rfl, _, _, h1, h2, _⟩
  · exact ⟨none, 0, by rw [hn], by omega, fun hb => absurd (List.eq_nil_of_length_eq_zero hn) hb⟩
  · refine ⟨_, cap, rfl, h1, fun _ => ⟨g, rfl, h.lt rfl, fun j hj => ?_⟩⟩
    have hc := cellsOfI_get its j hj
    exact ⟨by rw [World.ownsRow.cellAt h (j * 2) (by omega)]; exact hc.1, by rw [World.ownsRow.cellAt h (j * 2 + 1) (by omega)]; exact hc.2⟩

theorem Tryd.infoT : (Tryd.prog.info? 130).map (fun i => (i.zero, i.size, i.bytes)) = some (some (.agg #[.int .i64 0, .bool false]), 2, 16) := by kernel_rfl

theorem item_new (w : World) (x : Nat) (b : Bool) : CellsAt (w.alloc (.cells #[.int .i64 (x : Int), .bool b] 130)) ⟨w.heap.size, 0, none⟩ (itC (x, b)) := by
  intro j u hu
  match j, hu with
  | 0, hu => simp [itC] at hu; subst hu; simp [addAt]
  | 1, hu => simp [itC] at hu; subst hu; simp [addAt]
  | j + 2, hu => simp [itC] at hu

theorem wpList_append_item {ops : Array Oper} {rest : List Oper} {o : Oper} {a : Act} {Q : Exit → Act → World → Prop} (w : World) (B : Nat) (hgd : o.guard = none) (s x : Operand)
    (ho : o.op = .call { callee := .builtin .append, args := #[s, x], argTypes := #[128, 128] })
    (v : Value) (its : List (Nat × Bool)) (hs : a.eval s = v) (hrow : TRow B w v its) (ad : Addr) (y : Nat × Bool) (hx : a.eval x = .slice (some ad) 1 1) (hcs : CellsAt w ad (itC y)) (hlen : its.length + 1 ≤ 1000000000) (hB : B ≤ w.heap.size)
    (h : ∀ v' w', TRow B w' v' (its ++ [y]) → w.grownBy w' v.ownBlock → wpList Tryd.prog ops Q rest (a.put o.dst v') w') : wpList Tryd.prog ops Q (o :: rest) a w := by
  obtain ⟨i0, hi, hz0, hz1, hz2⟩ := info_parts Tryd.infoT
  refine wpList_append_own w hgd s x 128 ho B 130 i0 _ 2 16 Tryd.underlying128 hi hz0 hz1 hz2 rfl (by decide) v its.length (cellsOfI its) hs hrow ad 1 1 (itC y) hx rfl hcs (by intro u hu; simp [itC] at hu; rcases hu with rfl | rfl <;> rfl) (by simp only [maxLen]; omega) (by omega) hB ?_
  intro v' w' h1 h2 _
  refine h v' w' ?_ h2
  have e : cellsOfI (its ++ [y]) = cellsOfI its ++ itC y := by simp [cellsOfI]
  unfold TRow
  rw [List.length_append, e]
  exact h1

theorem step_append_item {ops : Array Oper} {o : Oper} {a : Act} {w : World} {K : Act → World → Prop} {Q : Exit → Act → World → Prop} {E : Prop} (B : Nat) (hgd : o.guard = none) (s x : Operand)
    (ho : o.op = .call { callee := .builtin .append, args := #[s, x], argTypes := #[128, 128] })
    (v : Value) (its : List (Nat × Bool)) (hs : a.eval s = v) (hrow : TRow B w v its) (ad : Addr) (y : Nat × Bool) (hx : a.eval x = .slice (some ad) 1 1) (hcs : CellsAt w ad (itC y)) (hlen : its.length + 1 ≤ 1000000000) (hB : B ≤ w.heap.size)
    (h : ∀ v' w', TRow B w' v' (its ++ [y]) → w.grownBy w' v.ownBlock → K (a.put o.dst v') w') : if Region.wanted o (yielded ops a.tmps) = true then Oper.wp Tryd.prog o a w K Q else E := by
  have hw : Region.wanted o (yielded ops a.tmps) = true := by simp [Region.wanted, hgd]
  rw [if_pos hw]
  obtain ⟨i0, hi, hz0, hz1, hz2⟩ := info_parts Tryd.infoT
  refine wp_append_own w s x 128 ho B 130 i0 _ 2 16 Tryd.underlying128 hi hz0 hz1 hz2 rfl (by decide) v its.length (cellsOfI its) hs hrow ad 1 1 (itC y) hx rfl hcs (by intro u hu; simp [itC] at hu; rcases hu with rfl | rfl <;> rfl) (by simp only [maxLen]; omega) (by omega) hB ?_
  intro v' w' h1 h2 _
  refine h v' w' ?_ h2
  have e : cellsOfI (its ++ [y]) = cellsOfI its ++ itC y := by simp [cellsOfI]
  unfold TRow
  rw [List.length_append, e]
  exact h1

end Go.Proofs.YtofhlnpbflkdlaaDoor

/-
  The closure that makes a level out of the one below.
-/
namespace Go.Proofs.YtofhlnpbflkdlaaDoor
open Go.RowKit

theorem slice_eq {a a' : Option Addr} {n n' c c' : Nat} (h1 : a = a') (h2 : n = n') (h3 : c = c') : Value.slice a n c = .slice a' n' c' := by rw [h1, h2, h3]

/-- The weights by rising order. -/
def wsOf (ns : List Nat) : List Nat := (ris ns).map (key ns)

theorem wsOf_length (ns : List Nat) : (wsOf ns).length = (ris ns).length := by simp [wsOf]
theorem wsOf_up (ns : List Nat) : Up (wsOf ns) := List.pairwise_map.2 ((ris_sorted ns).imp (fun {a b} h => by unfold Lt at h; omega))
theorem wsOf_get (ns : List Nat) (r : Nat) (h : r < (ris ns).length) : (wsOf ns)[r]'(by rw [wsOf_length]; exact h) = key ns (ris ns)[r] := by simp [wsOf]

theorem wsOf_drop (ns : List Nat) (r : Nat) (h : r < (ris ns).length) : (wsOf ns).drop r = key ns (ris ns)[r] :: (wsOf ns).drop (r + 1) := by
  rw [List.drop_eq_getElem_cons (by rw [wsOf_length]; exact h), wsOf_get ns r h]

/-- What the closure stands on: the boxes of the used symbols and of the counts. -/
structure Box2 (w : World) (bu bc : Nat) (vu vc : Value) (I : Nat → Prop) (ns : List Nat) : Prop where
  cu : w.cell? ⟨bu, 0, none⟩ = some vu
  cc : w.cell? ⟨bc, 0, none⟩ = some vc
  su : SrcE natV w I vu (ris ns)
  sc : SrcE natV w I vc ns

theorem Box2.same {w w' : World} {bu bc : Nat} {vu vc : Value} {I : Nat → Prop} {ns : List Nat} (h : Box2 w bu bc vu vc I ns) (hk : Same w w') : Box2 w' bu bc vu vc I ns :=
  ⟨hk.cell h.cu (fun h => h), hk.cell h.cc (fun h => h), h.su.same hk, h.sc.same hk⟩

set_option maxRecDepth 100000 in
set_option maxHeartbeats 4000000 in
theorem merge_any (w : World) (B0 bu bc : Nat) (vu vc : Value) (I : Nat → Prop) (ns : List Nat) (its : List (Nat × Bool)) (v : Value) (hb : Box2 w bu bc vu vc I ns) (hne : ris ns ≠ []) (hns : ns.length ≤ 288) (hrow : TRow B0 w v its) (hits : its.length ≤ 1000)
    (hW : ∀ x ∈ its, x.1 ≤ 40000000000000000) (hk : ∀ n ∈ ns, n ≤ 1000000000000) :
    Calls Tryd.prog 90 #[v, .pointer (some ⟨bu, 0, none⟩), .pointer (some ⟨bc, 0, none⟩)] w fun e w' => ∃ v', e = .returned v' ∧ TRow w.heap.size w' v' (mg (wsOf ns) (pairW (its.map (·.1)))) ∧ Same w w' := by
  obtain ⟨ps, hps⟩ : ∃ ps, ps = pairW (its.map (·.1)) := ⟨_, rfl⟩
  rw [← hps]
  have hpl : ps.length = its.length / 2 := by rw [hps, pairW_length, List.length_map]
  have hmlen : (ris ns).length ≤ 288 := Nat.le_trans (ris_length ns) hns
  have hm0 : 0 < (ris ns).length := List.length_pos_iff.2 hne
  obtain ⟨b, o, cap, hvu, _, _, _⟩ := hb.su.get 0 hm0
  subst hvu
  have hcap : (ris ns).length ≤ cap := by
    obtain ⟨_, _, e, h, _⟩ := hb.su
    simp only [Value.slice.injEq] at e
    omega
  obtain ⟨c0, oc, capc, hvc, _, _, _⟩ := hb.sc.get 0 (by have := ris_length ns; omega)
  subst hvc
  obtain ⟨ai, capi, rfl, hcapi, hcell⟩ := hrow.shape
  have cu := hb.cu
  have HB : Hid (Box2 w bu bc (.slice (some ⟨b, o, none⟩) (ris ns).length cap) (.slice (some ⟨c0, oc, none⟩) ns.length capc) I ns) := hb
  have HPS : Hid (ps = pairW (its.map (·.1)) ∧ ps.length = its.length / 2) := ⟨hps, hpl⟩
  have HCELL : Hid (its ≠ [] → ∃ g, ai = some ⟨g, 0, none⟩ ∧ g < w.heap.size ∧ ∀ j (_ : j < its.length), w.cell? ⟨g, j * 2, none⟩ = some (.int .i64 (its[j].1 : Int)) ∧ w.cell? ⟨g, j * 2 + 1, none⟩ = some (.bool its[j].2)) := hcell
  have HWW : Hid (∀ x ∈ its, x.1 ≤ 40000000000000000) := hW
  have HKK : Hid (∀ n ∈ ns, n ≤ 1000000000000) := hk
  obtain ⟨m, hm⟩ : ∃ m, m = (ris ns).length := ⟨_, rfl⟩
  have HMM : Hid (m = (ris ns).length) := hm
  rw [← hm] at hmlen hm0 hcap HB cu
  obtain ⟨tot, htot⟩ : ∃ tot, tot = mg (wsOf ns) ps := ⟨_, rfl⟩
  have HTOT : Hid (tot = mg (wsOf ns) ps ∧ tot.length ≤ 800) := ⟨htot, by rw [htot, mg_length, wsOf_length, hpl, ← hm]; omega⟩
  rw [← htot]
  clear hps hpl hb hrow hW hk hcell hne htot
  obtain ⟨il, hil⟩ : ∃ il, il = its.length := ⟨_, rfl⟩
  have HIL : Hid (il = its.length) := hil
  rw [← hil] at hits hcapi ⊢
  clear hil hm
  go_enter Tryd.func90, Tryd.ntmps90
  go_wp2_with fail
  go_loopg [5, 6, 7] il (fun q z5 z6 z7 wr => ∃ (i j r px : Nat) (out : List (Nat × Bool)), il - i ≤ q ∧ i ≤ 1002 ∧ r ≤ m ∧ Hid (r < m → px = o + r) ∧ z6 = .slice (some ⟨b, px, none⟩) (m - r) (cap - r) ∧ z7 = .int .i64 (i : Nat) ∧
      Hid (out ++ mg ((wsOf ns).drop r) (ps.drop j) = tot ∧ 2 * j ≤ il ∧ i = 1 + 2 * j) ∧ Hid (TRow w.heap.size wr z5 out) ∧ Hid (Same w wr))
  case atStart => exact ⟨1, 0, 0, o, [], by omega, by omega, by omega, hid (fun _ => rfl), rfl, rfl, hid ⟨by rw [HTOT.out.1]; simp, by omega, by omega⟩, TRow.nil, Kept.refl _ _⟩
  case round =>
    obtain ⟨i, j, r, px, out, hq, hi, hr, HPX, rfl, rfl, HF, HR, HK⟩ := hrel
    obtain ⟨gk0, hgk⟩ : ∃ x, x = gk := ⟨_, rfl⟩
    rw [← hgk] at hq
    have HG : Hid (gk0 = gk) := hgk
    clear hgk
    by_cases hlt : i < il
    · have hjl : 2 * j + 1 < its.length := by have := HIL.out; have := HF.out.2.2; omega
      obtain ⟨gi, hai, hgi, hcl⟩ := HCELL.out (by intro e; rw [e] at hjl; simp at hjl)
      subst hai
      obtain ⟨x1, hx1⟩ : ∃ x, x = its[2 * j].1 := ⟨_, rfl⟩
      obtain ⟨x2, hx2⟩ : ∃ x, x = its[2 * j + 1].1 := ⟨_, rfl⟩
      obtain ⟨h, hh⟩ : ∃ h, h = 2 * j := ⟨_, rfl⟩
      have hi2 : i = h + 1 := by have := HF.out.2.2; omega
      have c1 : wr.cell? ⟨gi, h * 2, none⟩ = some (.int .i64 (x1 : Int)) := by rw [hx1, hh]; exact HK.out.cell (hcl (2 * j) (by omega)).1 (fun h => h)
      have c2 : wr.cell? ⟨gi, i * 2, none⟩ = some (.int .i64 (x2 : Int)) := by rw [hx2, hi2, hh]; exact HK.out.cell (hcl (2 * j + 1) (by omega)).1 (fun h => h)
      have hx1l : x1 ≤ 40000000000000000 := by rw [hx1]; exact HWW.out _ (List.getElem_mem _)
      have hx2l : x2 ≤ 40000000000000000 := by rw [hx2]; exact HWW.out _ (List.getElem_mem _)
      obtain ⟨P, hP⟩ : ∃ P, P = x1 + x2 := ⟨_, rfl⟩
      have HP : Hid (ps.drop j = P :: ps.drop (j + 1)) := hid (by
        have hjp : j < ps.length := by have := HPS.out.2; omega
        rw [List.drop_eq_getElem_cons hjp, hP]
        congr 1
        have h1 := HPS.out.1
        subst h1
        rw [pairW_get _ _ hjp]
        simp [hx1, hx2])
      have hPI : ((x1 : Int) + (x2 : Int)) = (P : Int) := by omega
      have hPl : P ≤ 80000000000000000 := by omega
      have hsub : ((i : Int) - 1) = (h : Int) := by omega
      have hhl : h < il := by omega
      clear hx1 hx2 hcl hP hi2 hh
      go_wp2_with fail
      go_quiet (fail)
      have HR2 : Hid (TRow w.heap.size (wr.drewN nq) u5 out) := HR
      have HK2 : Hid (Same w (wr.drewN nq)) := hid (HK.out.drewN nq)
      clear HR HK c1 c2
      generalize wr.drewN nq = wq at HR2 HK2
      go_wp2_with fail
      go_loopg [5, 6] (m - r) (fun q z5 z6 wx => ∃ (r px : Nat) (out : List (Nat × Bool)), m - r ≤ q ∧ r ≤ m ∧ Hid (r < m → px = o + r) ∧ z6 = .slice (some ⟨b, px, none⟩) (m - r) (cap - r) ∧
        Hid (out ++ mg ((wsOf ns).drop r) (P :: ps.drop (j + 1)) = tot) ∧ Hid (TRow w.heap.size wx z5 out) ∧ Hid (Same w wx))
      case atStart => exact ⟨r, px, out, by omega, by omega, HPX, rfl, hid (by rw [← HP.out]; exact HF.out.1), HR2, HK2⟩
      case round =>
        clear HR2 HK2
        have HF0 : Hid (2 * j ≤ il ∧ i = 1 + 2 * j) := HF.out.2
        clear HF hr HPX
        obtain ⟨r, px, out, hq2, hr, HPX, rfl, HF, HR, HK⟩ := hrel
        have hout : out.length ≤ 800 := by have h1 := HF.out; have h2 := HTOT.out.2; rw [← h1] at h2; simp at h2; omega
        have hsz := HK.out.size
        by_cases hrm : r < m
        · have hpx := HPX.out hrm
          subst hpx
          have hrl : r < (ris ns).length := by have := HMM.out; omega
          have hbx := HB.out.same HK.out
          obtain ⟨b2, o2, cap2, e2, _, _, c3⟩ := hbx.su.get r hrl
          simp only [Value.slice.injEq, Option.some.injEq, Addr.mk.injEq, and_true] at e2
          obtain ⟨⟨rfl, rfl⟩, hxe, rfl⟩ := e2
          clear hxe
          obtain ⟨s, hs⟩ : ∃ s, s = (ris ns)[r] := ⟨_, rfl⟩
          have hsr : s < ns.length ∧ key ns s ≠ 0 := mem_ris.1 (by rw [hs]; exact List.getElem_mem _)
          rw [← hs] at c3
          obtain ⟨b3, o3, cap3, e3, _, _, c4⟩ := hbx.sc.get s hsr.1
          simp only [Value.slice.injEq, Option.some.injEq, Addr.mk.injEq, and_true] at e3
          obtain ⟨⟨rfl, rfl⟩, hxe, rfl⟩ := e3
          clear hxe
          rw [← key_get hsr.1] at c4
          obtain ⟨y, hy⟩ : ∃ y, y = key ns s := ⟨_, rfl⟩
          rw [← hy] at c4
          unfold natV at c3 c4
          have cb := hbx.cc
          have hyl : y ≤ 1000000000000 := by rw [hy, key_get hsr.1]; exact HKK.out _ (List.getElem_mem _)
          have hd : (wsOf ns).drop r = y :: (wsOf ns).drop (r + 1) := by rw [wsOf_drop ns r hrl, ← hs, hy]
          have hsn := hsr.1
          have hmr : 0 < m - r := by omega
          clear hs hsr hy hbx
          by_cases hle : y ≤ P
          · have HF2 : Hid (out ++ [(y, false)] ++ mg ((wsOf ns).drop (r + 1)) (P :: ps.drop (j + 1)) = tot) := hid (by
              have h1 := HF.out
              rw [hd, mg_leaf _ _ hle] at h1
              simpa using h1)
            clear hd
            have hle' : decide (y ≤ P) = true := by simp [hle]
            go_wp2_with fail
            go_quiet (fail)
            have HR2 : Hid (TRow w.heap.size (wr.drewN nq) u5 out) := HR
            have HK2 : Hid (Same w (wr.drewN nq)) := hid (HK.out.drewN nq)
            have c3' : (wr.drewN nq).cell? ⟨b, o + r, none⟩ = some (.int .i64 (s : Int)) := c3
            have c4' : (wr.drewN nq).cell? ⟨c0, oc + s, none⟩ = some (.int .i64 (y : Int)) := c4
            have cb' : (wr.drewN nq).cell? ⟨bc, 0, none⟩ = some (.slice (some ⟨c0, oc, none⟩) ns.length capc) := cb
            have hsz' : w.heap.size ≤ (wr.drewN nq).heap.size := hsz
            clear HR HK c3 c4 cb hsz
            generalize wr.drewN nq = wq at HR2 HK2 c3' c4' cb' hsz'
            go_wp2_with fail
            go_region_law (refine step_append_item w.heap.size rfl (.tmp 43) (.tmp 51) rfl u5 out (by simp [Act.eval]) (World.ownsRow.alloc HR2.out _) ⟨wq.heap.size, 0, none⟩ (y, false) (by simp [Act.eval]) (item_new _ _ _) (by omega) (by simp; omega) ?_; intro v' w1 hrow hgr)
            all_goals
              have HR3 : Hid (TRow w.heap.size w1 v' (out ++ [(y, false)])) := hrow
              have HK3 : Hid (Same w w1) := hid (Kept.grown ((HK2.out.alloc _).drew) hgr (fun k e => .inr (HR2.out.ge e)))
              clear hrow hgr HR2 HK2 c3' c4' cb'
              go_wp2_with fail
              all_goals
                go_roundg (gk - 1)
                case measure => omega
                case rel =>
                  refine ⟨r + 1, _, out ++ [(y, false)], by omega, by omega, ?_, slice_eq rfl (by omega) (by omega), HF2, HR3, HK3⟩
                  exact hid (fun _ => by omega)
          · have HF2 : Hid (out ++ [(P, true)] ++ mg ((wsOf ns).drop r) (ps.drop (j + 1)) = tot) := hid (by
              have h1 := HF.out
              rw [hd, mg_pack _ _ hle, ← hd] at h1
              simpa using h1)
            clear hd
            have hle' : decide (y ≤ P) = false := by simp; omega
            go_wp2_with fail
            go_quiet (fail)
            have HR2 : Hid (TRow w.heap.size (wr.drewN nq) u5 out) := HR
            have HK2 : Hid (Same w (wr.drewN nq)) := hid (HK.out.drewN nq)
            have hsz' : w.heap.size ≤ (wr.drewN nq).heap.size := hsz
            clear HR HK c3 c4 cb hsz
            generalize wr.drewN nq = wq at HR2 HK2 hsz'
            go_wp2_with (at_builtin; refine wpList_append_item _ w.heap.size rfl (.tmp 55) (.tmp 58) rfl u5 out rfl (World.ownsRow.alloc HR2.out _) ⟨wq.heap.size, 0, none⟩ (P, true) rfl (item_new _ _ _) (by omega) (by simp; omega) ?_; intro v' w1 hrow hgr)
            have HR3 : Hid (TRow w.heap.size w1 v' (out ++ [(P, true)])) := hrow
            have HK3 : Hid (Same w w1) := hid (Kept.grown (HK2.out.alloc _) hgr (fun k e => .inr (HR2.out.ge e)))
            clear hrow hgr HR2 HK2
            go_wp2_with fail
            go_roundg (gk0 - 1)
            case measure => have := HG.out; omega
            case rel => exact ⟨i + 2, j + 1, r, o + r, out ++ [(P, true)], by omega, by omega, by omega, hid (fun _ => rfl), rfl, by go_num, hid ⟨HF2.out, by have := HF0.out; omega, by have := HF0.out; omega⟩, HR3, HK3⟩
        · have hrm2 : r = m := by omega
          have hd : (wsOf ns).drop r = [] := List.drop_eq_nil_of_le (by rw [wsOf_length]; have := HMM.out; omega)
          have HF2 : Hid (out ++ [(P, true)] ++ mg ((wsOf ns).drop r) (ps.drop (j + 1)) = tot) := hid (by
            have h1 := HF.out
            rw [hd, mg_none] at h1
            rw [hd]
            simpa using h1)
          have hmr : m - r = 0 := by omega
          clear hd hrm2
          go_wp2_with fail
          go_quiet (fail)
          have HR2 : Hid (TRow w.heap.size (wr.drewN nq) u5 out) := HR
          have HK2 : Hid (Same w (wr.drewN nq)) := hid (HK.out.drewN nq)
          have hsz' : w.heap.size ≤ (wr.drewN nq).heap.size := hsz
          clear HR HK hsz
          generalize wr.drewN nq = wq at HR2 HK2 hsz'
          go_wp2_with (at_builtin; refine wpList_append_item _ w.heap.size rfl (.tmp 55) (.tmp 58) rfl u5 out rfl (World.ownsRow.alloc HR2.out _) ⟨wq.heap.size, 0, none⟩ (P, true) rfl (item_new _ _ _) (by omega) (by simp; omega) ?_; intro v' w1 hrow hgr)
          have HR3 : Hid (TRow w.heap.size w1 v' (out ++ [(P, true)])) := hrow
          have HK3 : Hid (Same w w1) := hid (Kept.grown (HK2.out.alloc _) hgr (fun k e => .inr (HR2.out.ge e)))
          clear hrow hgr HR2 HK2
          go_wp2_with fail
          go_roundg (gk0 - 1)
          case measure => have := HG.out; omega
          case rel => exact ⟨i + 2, j + 1, r, _, out ++ [(P, true)], by omega, by omega, by omega, HPX, by rw [hmr], by go_num, hid ⟨HF2.out, by have := HF0.out; omega, by have := HF0.out; omega⟩, HR3, HK3⟩
    · have hdn : ps.drop j = [] := List.drop_eq_nil_of_le (by have := HPS.out.2; have := HIL.out; have := HF.out; omega)
      have HF1 : Hid (out ++ mg ((wsOf ns).drop r) [] = tot) := hid (by have h := HF.out.1; rw [hdn] at h; exact h)
      clear hdn HF
      go_wp2_with fail
      go_loopg [5, 62] (m - r) (fun q z5 zk wx => ∃ (k : Nat) (out : List (Nat × Bool)), m - r - k ≤ q ∧ k ≤ m - r ∧ zk = .int .i64 (k : Nat) ∧ Hid (out ++ mg ((wsOf ns).drop (r + k)) [] = tot) ∧ Hid (TRow w.heap.size wx z5 out) ∧ Hid (Same w wx))
      case atStart => exact ⟨0, out, by omega, by omega, rfl, HF1, HR, HK⟩
      case round =>
        clear HF1 HR HK
        obtain ⟨k, out, hq2, hk, rfl, HF, HR, HK⟩ := hrel
        have hout : out.length ≤ 800 := by have h1 := HF.out; have h2 := HTOT.out.2; rw [← h1] at h2; simp at h2; omega
        have hsz := HK.out.size
        by_cases hrm : k < m - r
        · have hpx := HPX.out (by omega)
          subst hpx
          have hrl : r + k < (ris ns).length := by have := HMM.out; omega
          have hbx := HB.out.same HK.out
          obtain ⟨b2, o2, cap2, e2, _, _, c3⟩ := hbx.su.get (r + k) hrl
          simp only [Value.slice.injEq, Option.some.injEq, Addr.mk.injEq, and_true] at e2
          obtain ⟨⟨rfl, rfl⟩, hxe, rfl⟩ := e2
          clear hxe
          obtain ⟨s, hs⟩ : ∃ s, s = (ris ns)[r + k] := ⟨_, rfl⟩
          have hsr : s < ns.length ∧ key ns s ≠ 0 := mem_ris.1 (by rw [hs]; exact List.getElem_mem _)
          rw [← hs] at c3
          obtain ⟨b3, o3, cap3, e3, _, _, c4⟩ := hbx.sc.get s hsr.1
          simp only [Value.slice.injEq, Option.some.injEq, Addr.mk.injEq, and_true] at e3
          obtain ⟨⟨rfl, rfl⟩, hxe, rfl⟩ := e3
          clear hxe
          rw [← key_get hsr.1] at c4
          obtain ⟨y, hy⟩ : ∃ y, y = key ns s := ⟨_, rfl⟩
          rw [← hy] at c4
          unfold natV at c3 c4
          rw [← Nat.add_assoc] at c3
          have cb := hbx.cc
          have hyl : y ≤ 1000000000000 := by rw [hy, key_get hsr.1]; exact HKK.out _ (List.getElem_mem _)
          have HF2 : Hid (out ++ [(y, false)] ++ mg ((wsOf ns).drop (r + (k + 1))) [] = tot) := hid (by
            have h1 := HF.out
            rw [wsOf_drop ns (r + k) hrl, ← hs, ← hy, mg_nil, List.map_cons, ← mg_nil] at h1
            rw [← Nat.add_assoc]
            simpa using h1)
          have hsn := hsr.1
          clear hs hsr hy hbx
          go_wp2_with (at_builtin; refine wpList_append_item _ w.heap.size rfl (.tmp 66) (.tmp 72) rfl u5 out rfl (World.ownsRow.alloc HR.out _) ⟨wr.heap.size, 0, none⟩ (y, false) rfl (item_new _ _ _) (by omega) (by simp; omega) ?_; intro v' w1 hrow hgr)
          have HR3 : Hid (TRow w.heap.size w1 v' (out ++ [(y, false)])) := hrow
          have HK3 : Hid (Same w w1) := hid (Kept.grown (HK.out.alloc _) hgr (fun k e => .inr (HR.out.ge e)))
          clear hrow hgr HR HK
          go_wp2_with fail
          go_roundg (gk - 1)
          case measure => omega
          case rel => exact ⟨k + 1, out ++ [(y, false)], by omega, by omega, by go_num, HF2, HR3, HK3⟩
        · have hk2 : k = m - r := by omega
          subst hk2
          have he : out = tot := by
            have h1 := HF.out
            rw [List.drop_eq_nil_of_le (by rw [wsOf_length]; have := HMM.out; omega), mg_nil] at h1
            simpa using h1
          have HE : Hid (out = tot) := he
          clear he
          go_wp2_with fail
          go_ret
          exact ⟨_, rfl, by rw [← HE.out]; exact HR.out, HK.out⟩

end Go.Proofs.YtofhlnpbflkdlaaDoor

/-
  levels: a row of levels.
-/
namespace Go.Proofs.YtofhlnpbflkdlaaDoor
open Go.RowKit

theorem Tryd.infoL : (Tryd.prog.info? 128).map (fun i => (i.zero, i.size, i.bytes)) = some (some (slV (none, 0, 0)), 1, 24) := by kernel_rfl

abbrev LRow (B : Nat) := RowE B 128 slV

theorem lev_weight (ws : List Nat) (M : Nat) (h : ∀ x ∈ ws, x ≤ M) (t : Nat) : ∀ x ∈ lev ws t, x.1 ≤ 2 ^ t * M := by
  induction t with
  | zero =>
    intro x hx
    simp [lev, mg_nil] at hx
    obtain ⟨a, ha, rfl⟩ := hx
    simpa using h a ha
  | succ t ih =>
    intro x hx
    have hx1 : x.1 ∈ (mg ws (pairW ((lev ws t).map (·.1)))).map (·.1) := List.mem_map.2 ⟨x, hx, rfl⟩
    have h1 : 1 * M ≤ 2 ^ (t + 1) * M := Nat.mul_le_mul_right _ (Nat.two_pow_pos _)
    rcases List.mem_append.1 ((mg_perm _ _).mem_iff.1 hx1) with h2 | h2
    · have := h _ h2; omega
    · obtain ⟨k, hk, e⟩ := List.getElem_of_mem h2
      have hl := pairW_length ((lev ws t).map (·.1))
      rw [List.length_map] at hl
      rw [pairW_get _ _ hk] at e
      have a1 := ih _ (List.getElem_mem (show 2 * k < (lev ws t).length by omega))
      have a2 := ih _ (List.getElem_mem (show 2 * k + 1 < (lev ws t).length by omega))
      simp only [List.getElem_map] at e
      have e2 : 2 ^ (t + 1) * M = 2 ^ t * M + 2 ^ t * M := by rw [Nat.pow_succ, Nat.mul_assoc, Nat.mul_comm 2 M, ← Nat.mul_assoc]; omega
      omega

theorem lev_ok (ns : List Nat) (hk : ∀ n ∈ ns, n ≤ 1000000000000) (t : Nat) (ht : t ≤ 15) : ∀ x ∈ lev (wsOf ns) t, x.1 ≤ 40000000000000000 := by
  intro x hx
  have h1 := lev_weight (wsOf ns) 1000000000000 (by
    intro y hy
    obtain ⟨s, hs, rfl⟩ := List.mem_map.1 hy
    have := (mem_ris.1 hs).1
    rw [key_get this]; exact hk _ (List.getElem_mem _)) t x hx
  have h2 : 2 ^ t ≤ 2 ^ 15 := Nat.pow_le_pow_right (by omega) ht
  have h3 : (2 : Nat) ^ 15 = 32768 := by decide
  have h4 : 2 ^ t * 1000000000000 ≤ 32768 * 1000000000000 := Nat.mul_le_mul_right _ (by omega)
  omega

/-- The levels that lie in a row of slices. -/
def Levs (B : Nat) (w : World) (ns : List Nat) (vs : List (Option Addr × Nat × Nat)) : Prop := ∀ t (h : t < vs.length), TRow B w (slV vs[t]) (lev (wsOf ns) t)

theorem Levs.kept {F : Nat → Prop} {B : Nat} {w w' : World} {ns : List Nat} {vs : List (Option Addr × Nat × Nat)} (h : Levs B w ns vs) (hk : Kept F w w') (hF : ∀ k, B ≤ k → k < w.heap.size → ¬ F k) : Levs B w' ns vs :=
  fun t ht => (h t ht).kept hk (fun k e => hF k ((h t ht).ge e) ((h t ht).lt e))

/-- Rows of unlike types lie apart. -/
theorem TRow.apart {B B' : Nat} {w : World} {v v' : Value} {its : List (Nat × Bool)} {vs : List (Option Addr × Nat × Nat)} (h : TRow B w v its) (h' : LRow B' w v' vs) {j g : Nat} (hj : v.ownBlock = some j) (hg : v'.ownBlock = some g) : j ≠ g := by
  rintro rfl
  rcases h.2 with ⟨rfl, _⟩ | ⟨g1, c1, cur1, rfl, _, e1, _⟩
  · simp [Value.ownBlock] at hj
  · rcases h'.2 with ⟨rfl, _⟩ | ⟨g2, c2, cur2, rfl, _, e2, _⟩
    · simp [Value.ownBlock] at hg
    · simp [Value.ownBlock] at hj hg
      subst hj hg
      rw [e1] at e2
      simp at e2

set_option maxRecDepth 100000 in
set_option maxHeartbeats 2000000 in
theorem levels_any (w : World) (vu vc : Value) (I : Nat → Prop) (ns : List Nat) (most : Nat) (hu : SrcE natV w I vu (ris ns)) (hc : SrcE natV w I vc ns) (hne : ris ns ≠ []) (hns : ns.length ≤ 288) (hk : ∀ n ∈ ns, n ≤ 1000000000000) (hm1 : 1 ≤ most) (hm : most ≤ 15) :
    Calls Tryd.prog 77 #[vc, vu, .int .i64 (most : Nat)] w fun e w' => (∃ g cap vs, e = .returned (.slice (some ⟨g, 0, none⟩) most cap) ∧ LRow w.heap.size w' (.slice (some ⟨g, 0, none⟩) most cap) vs ∧ Levs w.heap.size w' ns vs ∧ most ≤ cap) ∧ Same w w' := by
  obtain ⟨au, capu, hvu, hx1, hx2⟩ := id hu
  obtain ⟨ac, capc, hvc, hx3, hx4⟩ := id hc
  clear hx1 hx2 hx3 hx4
  obtain ⟨nu, hnu⟩ : ∃ nu, nu = (ris ns).length := ⟨_, rfl⟩
  obtain ⟨nc, hnc⟩ : ∃ nc, nc = ns.length := ⟨_, rfl⟩
  rw [← hnu] at hvu
  rw [← hnc] at hvc
  subst hvu hvc
  clear hnu hnc
  generalize hVU : Value.slice au nu capu = vu at *
  generalize hVC : Value.slice ac nc capc = vc at *
  have hk0 : Same w ((w.alloc (.cells #[vc] 22)).alloc (.cells #[vu] 22)) := ((Kept.refl _ w).alloc _).alloc _
  have hz : (w.alloc (.cells #[vc] 22)).heap.size = w.heap.size + 1 := by simp
  obtain ⟨w1, hw1⟩ : ∃ w1, w1 = (w.alloc (.cells #[vc] 22)).alloc (.cells #[vu] 22) := ⟨_, rfl⟩
  have hz1 : w.heap.size + 2 ≤ w1.heap.size := by rw [hw1]; simp
  have HB : Hid (Box2 w1 (w.heap.size + 1) w.heap.size vu vc I ns) := hid (by
    rw [hw1]
    refine ⟨?_, ?_, hu.same hk0, hc.same hk0⟩
    · rw [← hz]; simp
    · simp)
  have HK0 : Hid (Same w w1) := hid (by rw [hw1]; exact hk0)
  have HM := fun wx (h : Same w1 wx) => fun (its : List (Nat × Bool)) (v : Value) => fun (hr : TRow 0 wx v its) (h1 : its.length ≤ 1000) (h2 : ∀ x ∈ its, x.1 ≤ 40000000000000000) => merge_any wx 0 _ _ vu vc I ns its v (HB.out.same h) hne hns hr h1 h2 hk
  have HMM : Hid (∀ wx, Same w1 wx → ∀ (its : List (Nat × Bool)) (v : Value), TRow 0 wx v its → its.length ≤ 1000 → (∀ x ∈ its, x.1 ≤ 40000000000000000) → Calls Tryd.prog 90 #[v, .pointer (some ⟨w.heap.size + 1, 0, none⟩), .pointer (some ⟨w.heap.size, 0, none⟩)] wx fun e w' => ∃ v', e = .returned v' ∧ TRow wx.heap.size w' v' (mg (wsOf ns) (pairW (its.map (·.1)))) ∧ Same wx w') := HM
  have HLEN : Hid (∀ t, (lev (wsOf ns) t).length ≤ 1000) := hid (fun t => by
    have h1 := (lev_length (wsOf ns) t).2
    have h2 := ris_length ns
    rw [wsOf_length] at h1
    omega)
  have HOK : Hid (∀ t, t ≤ 15 → ∀ x ∈ lev (wsOf ns) t, x.1 ≤ 40000000000000000) := hid (fun t ht => lev_ok ns hk t ht)
  clear hk0 HM hu hc hk hz
  have HC0 := HMM.out w1 (Kept.refl _ _) [] (.slice none 0 0) TRow.nil (by simp) (by simp)
  subst hVU hVC
  go_enter Tryd.func77, Tryd.ntmps77
  go_wp2_with fail
  rw [← hw1]
  clear hw1
  refine HC0.mono ?_
  rintro e w2 ⟨v2, rfl, hr2, hk2⟩
  obtain ⟨a2, c2, hv2, _, _⟩ := hr2.shape
  subst hv2
  have HR2 : Hid (TRow w.heap.size w2 (.slice a2 (mg (wsOf ns) (pairW (List.map (fun x : Nat × Bool => x.1) []))).length c2) (lev (wsOf ns) 0)) := hid (by
    refine ⟨hr2.1, ?_⟩
    rcases hr2.2 with h | ⟨g, cap, cur, e, hb, rest⟩
    · exact .inl h
    · exact .inr ⟨g, cap, cur, e, by omega, rest⟩)
  have HK2 : Hid (Same w1 w2) := hk2
  have hsz2 := hk2.size
  clear hr2 hk2 HC0
  generalize (mg (wsOf ns) (pairW (List.map (fun x : Nat × Bool => x.1) []))).length = n2 at HR2 ⊢
  go_wp2_with fail
  go_loopg [8] most (fun q z wr => ∃ (k cap g : Nat) (vs : List (Option Addr × Nat × Nat)), most - k ≤ q ∧ 1 ≤ k ∧ k ≤ most ∧ k ≤ cap ∧ z = .slice (some ⟨g, 0, none⟩) k cap ∧ Hid (LRow w1.heap.size wr (.slice (some ⟨g, 0, none⟩) k cap) vs) ∧ Hid (Levs w.heap.size wr ns vs) ∧ Hid (Same w1 wr))
  case atStart =>
    have hk3 : Same w2 (w2.alloc (.cells #[.slice a2 n2 c2] 128)) := (Kept.refl _ w2).alloc _
    have hrow : LRow w1.heap.size (w2.alloc (.cells #[.slice a2 n2 c2] 128)) (.slice (some ⟨w2.heap.size, 0, none⟩) 1 1) [(a2, n2, c2)] :=
      ⟨rfl, .inr ⟨w2.heap.size, 1, #[.slice a2 n2 c2], rfl, hsz2, heap_alloc_new w2 _, Nat.le_refl _, by simp only [maxLen]; omega, rfl, rfl⟩⟩
    refine ⟨1, 1, w2.heap.size, [(a2, n2, c2)], by omega, by omega, by omega, by omega, rfl, hrow, ?_, Same.trans HK2.out hk3⟩
    refine hid (fun t ht => ?_)
    have : t = 0 := by simpa using ht
    subst this
    exact TRow.kept HR2.out hk3 (fun _ _ h => h)
  case round =>
    obtain ⟨k, cap, g, vs, hq, hk1, hkm, hkc, rfl, HR, HL, HK⟩ := hrel
    clear HR2 HK2
    have hvl : vs.length = k := HR.out.len
    by_cases hlt : k < most
    · have hlast : k - 1 < vs.length := by omega
      obtain ⟨la, ln, lc, hl⟩ : ∃ la ln lc, vs[k - 1] = (la, ln, lc) := ⟨_, _, _, rfl⟩
      have cl : wr.cell? ⟨g, k - 1, none⟩ = some (.slice la ln lc) := by rw [HR.out.cell (k - 1) hlast, hl]; rfl
      have htr : TRow 0 wr (.slice la ln lc) (lev (wsOf ns) (k - 1)) := by
        have h := HL.out (k - 1) hlast
        rw [hl] at h
        refine ⟨h.1, ?_⟩
        rcases h.2 with h | ⟨g, cap, cur, e, hb, rest⟩
        · exact .inl h
        · exact .inr ⟨g, cap, cur, e, Nat.zero_le _, rest⟩
      have HC := HMM.out wr HK.out _ _ htr (HLEN.out _) (HOK.out _ (by omega))
      have hsub : ((k : Int) - 1) = ((k - 1 : Nat) : Int) := by omega
      have hvle : vs.length ≤ 15 := by omega
      have HVL : Hid (vs.length = k) := hvl
      clear htr hl hlast hvl
      go_wp2_with fail
      refine HC.mono ?_
      rintro e w3 ⟨v3, rfl, hr3, hk3⟩
      obtain ⟨a3, c3, hv3, _, _⟩ := hr3.shape
      subst hv3
      have e3 : mg (wsOf ns) (pairW ((lev (wsOf ns) (k - 1)).map (·.1))) = lev (wsOf ns) k := by
        conv => rhs; rw [show k = (k - 1) + 1 by omega]
        rfl
      rw [e3] at hr3 ⊢
      have hs3 := hk3.size
      have hs1 := HK.out.size
      have HR3 : Hid (TRow wr.heap.size w3 (.slice a3 (lev (wsOf ns) k).length c3) (lev (wsOf ns) k)) := hr3
      have HK3 : Hid (Same wr w3) := hk3
      have HRo : Hid (LRow w1.heap.size w3 (.slice (some ⟨g, 0, none⟩) k cap) vs) := hid (HR.out.same hk3)
      have HLo : Hid (Levs w.heap.size w3 ns vs) := hid (HL.out.kept hk3 (fun _ _ _ h => h))
      have hgl : g < wr.heap.size := HR.out.lt rfl
      clear hr3 hk3 e3 HC HR HL cl
      generalize (lev (wsOf ns) k).length = n3 at *
      go_wp2_with (at_builtin; refine wpList_append_e _ slV slV_one w1.heap.size 112 128 (slV (none, 0, 0)) 24 Tryd.underlying112 Tryd.infoL rfl (by decide) rfl (.tmp 17) (.tmp 26) rfl (.slice (some ⟨g, 0, none⟩) k cap) vs rfl (World.ownsRow.alloc HRo.out _) ⟨w3.heap.size, 0, none⟩ 1 1 [(a3, n3, c3)] rfl rfl (cellsAt_new _ _ _) (by simp; omega) (by simp; omega) ?_; intro v' w4 hrow hgr)
      obtain ⟨g4, cap4, hv4, hg4, hg4l, hc4⟩ := RowE.some hrow (by simp)
      rw [show (vs ++ [(a3, n3, c3)]).length = k + 1 by simp [HVL.out]] at hv4 hc4
      subst hv4
      have hkg : Kept (· = g) w3 w4 := Kept.grown ((Kept.refl _ w3).alloc _) hgr (fun j e => by simp [Value.ownBlock] at e; exact .inl e.symm)
      have hgb : w1.heap.size ≤ g := HRo.out.ge rfl
      have HR5 : Hid (LRow w1.heap.size w4 (.slice (some ⟨g4, 0, none⟩) (k + 1) cap4) (vs ++ [(a3, n3, c3)])) := hrow
      have HK5 : Hid (Same w1 w4) := hid (Same.then (Same.trans HK.out HK3.out) hkg (fun x hx e => by omega))
      have HL5 : Hid (Levs w.heap.size w4 ns (vs ++ [(a3, n3, c3)])) := hid (by
        intro t ht
        by_cases h : t < vs.length
        · rw [List.getElem_append_left h]
          exact TRow.kept (HLo.out t h) hkg (fun j hj e => TRow.apart (HLo.out t h) HRo.out hj (g := g) rfl e)
        · have htk : t = k := by rw [List.length_append] at ht; simp at ht; have := HVL.out; omega
          rw [List.getElem_append_right (by omega)]
          subst htk
          simp only [HVL.out, Nat.sub_self, List.getElem_cons_zero]
          have h3 := TRow.kept HR3.out hkg (fun j hj e => TRow.apart HR3.out HRo.out hj (g := g) rfl e)
          refine ⟨h3.1, ?_⟩
          rcases h3.2 with h | ⟨g, cap, cur, e, hb, rest⟩
          · exact .inl h
          · exact .inr ⟨g, cap, cur, e, by omega, rest⟩)
      clear hrow hgr hkg HRo HLo HR3
      go_wp2_with fail
      go_roundg (gk - 1)
      case measure => omega
      case rel => exact ⟨k + 1, cap4, g4, vs ++ [(a3, n3, c3)], by omega, by omega, by omega, hc4, rfl, HR5, HL5, HK5⟩
    · have hk2 : k = most := by omega
      subst hk2
      go_wp2_with fail
      go_ret
      exact ⟨⟨g, cap, vs, rfl, RowE.base HR.out (by omega), HL.out, hkc⟩, Same.trans HK0.out HK.out⟩

end Go.Proofs.YtofhlnpbflkdlaaDoor
