/-
  Layer 17, the reference: Left.
-/
import Derived.Test.YtjlkchjcmiljjaaDoorQtR
namespace Go.Proofs.YtjlkchjcmiljjaaDoor
open Go.RowKit Go.Maps

theorem heldL_take (k : Nat) (l : List Hd) (i : Nat) : (heldL k (l.take i)).b ≤ (heldL k l).b ∧ (heldL k (l.take i)).e ≤ (heldL k l).e := by
  have h1 := heldL_app k (l.take i) (l.drop i)
  rw [List.take_append_drop] at h1
  have h2 := heldL_pos k (l.drop i)
  rw [h1]
  simp only [Us.add]
  omega

theorem heldL_succ (k : Nat) (l : List Hd) (i : Nat) {x : Hd} (hx : l[i]? = some x) : heldL k (l.take (i + 1)) = if x.ten = k then (heldL k (l.take i)).add x.m.up else heldL k (l.take i) := by
  rw [List.take_add_one, hx, heldL_app]
  simp only [Option.toList, heldL]
  split
  · simp [Us.add]
  · simp [Us.add]

section
variable {N : Nat} {w : World} {q : Nat} {lv uv hv : Value} {xs : List Tn} {S : Sq}

set_option maxRecDepth 100000 in
set_option maxHeartbeats 1000000 in
theorem rqleft_none (h : Rq N w q lv uv hv xs S) (hi : Qv xs S) (t : ByteArray) (hx : idxT xs t = none) : Calls Tryd.prog 26 #[.pointer (some ⟨q, 0, none⟩), .string t] w fun e w' => e = .returned (noU 170) ∧ Same w w' := by
  obtain ⟨W1, hW1⟩ : ∃ W, W = w.alloc (.cells #[.int .i64 0, .int .i64 0] 31) := ⟨_, rfl⟩
  obtain ⟨xb, hxb⟩ : ∃ b, b = w.heap.size := ⟨_, rfl⟩
  have HK1 : Hid (Same w W1 ∧ w.heap.size ≤ xb) := hid ⟨by rw [hW1]; exact (Kept.refl _ w).alloc _, by omega⟩
  have HB : Hid (Blk W1 xb #[.int .i64 0, .int .i64 0] 31) := hid (by rw [hW1, hxb]; exact Blk.new w _ _)
  have HF := rqfind_any (h.same HK1.out.1) hi.n8 t
  obtain ⟨z0, z1, z2, z3⟩ := HB.out.c2
  rw [fdZ_none hx] at HF
  clear h hi hx
  go_enter Tryd.func26, Tryd.ntmps26
  go_upto_region 1 with fail
  rw [← hW1, ← hxb]
  clear hW1 hxb
  go_wp2_with fail
  refine HF.mono ?_
  rintro e w2 ⟨rfl, rfl⟩
  clear HF
  go_wp2_with fail
  refine bodyPost_ret (v := noU 170) (by rw [results_17b (p := 4) (b := 5) (ty := 31) rfl _ _ _ _ _ ⟨xb, 0, none⟩ _ rfl (loadU (set17 HB.out).1)]; rfl) rfl ?_
  exact ⟨rfl, HK1.out.1.then (set17 HB.out).2 (fun k hk e => by have := HK1.out.2; omega)⟩

theorem left_num (hi : Qv xs S) {k : Nat} (hk : k < xs.length) (i : Nat) : (mayT xs k).inn 0 1000000000 ∧ (S.use k).inn 0 2000000000 ∧ (heldL k (S.hs.take i)).inn 0 1000000000 := by
  have h1 := hi.num hk
  have h2 := heldL_take k S.hs i
  have h3 := heldL_pos k (S.hs.take i)
  have h4 : S.held k = heldL k S.hs := rfl
  rw [h4] at h1
  unfold Us.inn at *
  omega

set_option maxRecDepth 100000 in
set_option maxHeartbeats 4000000 in
theorem rqleft_some (h : Rq N w q lv uv hv xs S) (hi : Qv xs S) (hL : S.hs.length ≤ 1000000) (t : ByteArray) {k : Nat} (hx : idxT xs t = some k) : Calls Tryd.prog 26 #[.pointer (some ⟨q, 0, none⟩), .string t] w fun e w' => e = .returned (.tuple #[usV (leftQ xs S k), .int .i64 0]) ∧ Same w w' := by
  obtain ⟨W1, hW1⟩ : ∃ W, W = w.alloc (.cells #[.int .i64 0, .int .i64 0] 31) := ⟨_, rfl⟩
  obtain ⟨xb, hxb⟩ : ∃ b, b = w.heap.size := ⟨_, rfl⟩
  have HK1 : Hid (Same w W1 ∧ w.heap.size ≤ xb) := hid ⟨by rw [hW1]; exact (Kept.refl _ w).alloc _, by omega⟩
  have HB : Hid (Blk W1 xb #[.int .i64 0, .int .i64 0] 31) := hid (by rw [hW1, hxb]; exact Blk.new w _ _)
  have H1 := h.same HK1.out.1
  have HF := rqfind_any H1 hi.n8 t
  rw [fdZ_some hx] at HF
  have hkl := idxT_lt hx
  obtain ⟨g, cap, eu, u0, u1, _, _⟩ := H1.useAt hi hkl
  obtain ⟨ao, cl, el, hll, _⟩ := H1.ten
  have HSL := H1.ten
  rw [el] at HSL
  obtain ⟨lb, lo, x, rfl, _, hxk, _, _, l2, l3⟩ := HSL.at4 k hkl
  obtain ⟨ha, hc, eh, hgne, _⟩ := H1.hel.shape
  have HSH := hid (SrcC.ofRow hdE_ok H1.hel)
  have x0 := H1.blk.cell 0
  have x1 := H1.blk.cell 1
  have x2 := H1.blk.cell 2
  simp only [List.getElem?_toArray, List.getElem?_cons_succ, List.getElem?_cons_zero] at x0 x1 x2
  rw [el] at x0
  rw [eu] at x1
  rw [eh] at x2 HSH
  obtain ⟨nt, hnt⟩ : ∃ n, n = xs.length := ⟨_, rfl⟩
  obtain ⟨nh, hnh⟩ : ∃ n, n = S.hs.length := ⟨_, rfl⟩
  rw [← hnt] at x0 x1 hkl
  rw [← hnh] at x2 HSH hL eh
  have hmay : mayT xs k = ⟨x.b, x.e⟩ := by unfold mayT; rw [List.getD_eq_getElem?_getD, hxk]; rfl
  obtain ⟨us, hus⟩ : ∃ d, d = S.use k := ⟨_, rfl⟩
  rw [← hus] at u0 u1
  have HNUM : Hid (∀ i, (heldL k (S.hs.take i)).inn 0 1000000000) := hid (fun i => (left_num hi (by rw [← hnt]; exact hkl) i).2.2)
  have hn0 := left_num hi (k := k) (by rw [← hnt]; exact hkl) 0
  rw [hmay, ← hus] at hn0
  unfold Us.inn at hn0
  obtain ⟨d, hd⟩ : ∃ d : Us, d = ⟨x.b - us.b, x.e - us.e⟩ := ⟨_, rfl⟩
  have hd0 : IntKind.i64.wrap (x.b - us.b) = d.b := by rw [hd]; exact wrap_in (by simp only at hn0; omega) (by simp only at hn0; omega)
  have hd1 : IntKind.i64.wrap (x.e - us.e) = d.e := by rw [hd]; exact wrap_in (by simp only at hn0; omega) (by simp only at hn0; omega)
  have HD : Hid (-2000000000 ≤ d.b ∧ d.b ≤ 1000000000 ∧ -2000000000 ≤ d.e ∧ d.e ≤ 1000000000) := hid (by rw [hd]; simp only at hn0 ⊢; omega)
  have HLQ : Hid (leftQ xs S k = (d.sub (heldL k S.hs)).up) := hid (by unfold leftQ; rw [hmay, ← hus, hd]; simp only [Us.up, Us.sub, Us.add, Sq.held, Us.mk.injEq]; constructor <;> (congr 1; omega))
  obtain ⟨W5, hW5⟩ : ∃ W, W = (W1.alloc (.cells #[.int .i64 d.b, .int .i64 d.e] 31)).drew := ⟨_, rfl⟩
  obtain ⟨g5, hg5⟩ : ∃ b, b = W1.heap.size := ⟨_, rfl⟩
  have hk5 : Same W1 W5 := by rw [hW5]; exact ((Kept.refl _ _).alloc _).drew
  have HB5 : Hid (Blk W5 g5 #[.int .i64 d.b, .int .i64 d.e] 31) := hid (by rw [hW5, hg5]; exact (Blk.new W1 _ _).kept (show Same _ (World.drew _) from (Kept.refl _ _).drew) (fun f => f))
  have HXG : Hid (xb < g5) := hid (by rw [hg5]; exact HB.out.lt)
  have c1 : (0 : Int) ≤ (k : Int) := by omega
  have c2 : (k : Int) < (nt : Int) := by omega
  have c3 : decide ((k : Int) < 0) = false := by simp
  have HQ5 := hid (H1.same hk5)
  have HRH : Hid (RowC N 78 4 hdE W5 (.slice ha nh hc) S.hs) := hid (by have h9 := (H1.same hk5).hel; rw [eh] at h9; exact h9)
  have HEH := hid eh
  have HNH := hid hnh
  have HK5 := hid hk5
  have HGN := hid hgne
  have HLL := hid hL
  have HB5x := hid (HB.out.kept hk5 (fun f => f))
  have hq5 := (H1.same hk5).blk.cell 2
  simp only [List.getElem?_toArray, List.getElem?_cons_succ, List.getElem?_cons_zero] at hq5
  rw [eh] at hq5
  have HQC := hid hq5
  clear h hi H1 hx eu el eh HSL hnt hus hd hn0 hmay hxk hll hgne hnh hL hq5 hk5 HSH x2
  unfold usV
  go_enter Tryd.func26, Tryd.ntmps26
  go_upto_region 1 with fail
  rw [← hW1, ← hxb]
  clear hW1 hxb
  go_wp2_with fail
  refine HF.mono ?_
  rintro e w2 ⟨rfl, rfl⟩
  clear HF
  go_upto_region 4 with fail
  go_region_held3 (fun w' => w'.cell? ⟨q, 0, none⟩ = some (.slice (some ⟨lb, lo, none⟩) nt cl) ∧ w'.cell? ⟨q, 1, none⟩ = some (.slice (some ⟨g, 0, none⟩) nt cap) ∧ w'.cell? ⟨lb, lo + k * 4 + 2, none⟩ = some (.int .i64 x.b) ∧ w'.cell? ⟨lb, lo + k * 4 + 3, none⟩ = some (.int .i64 x.e) ∧ w'.cell? ⟨g, k * 2, none⟩ = some (.int .i64 us.b) ∧ w'.cell? ⟨g, k * 2 + 1, none⟩ = some (.int .i64 us.e)) (go_keep) (fail)
  rw [← hW5, ← hg5]
  clear hW5 hg5 x0 x1 l2 l3 u0 u1
  go_wp2_with fail
  go_loopg [8] nh (fun qq z8 wr => ∃ i : Nat, z8 = .int .i64 (i : Nat) ∧ i ≤ nh ∧ nh - i ≤ qq ∧ Hid (Blk wr g5 #[.int .i64 (d.b - (heldL k (S.hs.take i)).b), .int .i64 (d.e - (heldL k (S.hs.take i)).e)] 31 ∧ Kept (· = g5) W5 wr))
  case atStart => exact ⟨0, rfl, by omega, by omega, hid ⟨by simpa [heldL] using HB5.out, Kept.refl _ _⟩⟩
  case round =>
    obtain ⟨i, rfl, hi, hiq, HI⟩ := hrel
    have hqg : q ≠ g5 := Blk.ne HQ5.out.blk HB5.out (by decide)
    have x2 := HI.out.2.cell HQC.out hqg
    by_cases hlt : i < nh
    · have e1 : decide ((i : Int) < (nh : Int)) = true := by simp; omega
      have e2 : decide (i < nh) = true := by simp; omega
      obtain ⟨y, hy⟩ : ∃ y, S.hs[i]? = some y := ⟨_, List.getElem?_eq_getElem (by rw [← HNH.out]; exact hlt)⟩
      obtain ⟨hg, rfl⟩ := HGN.out (fun e => by rw [e] at hy; simp at hy)
      have hgg : hg ≠ g5 := fun e => HRH.out.offB HB5.out (by decide) (by rw [e]; rfl)
      have kk := fun (j : Nat) (hj : j < 4) => HRH.out.cell hdE_ok i j (by rw [← HNH.out]; exact hlt) hj
      rw [(List.getElem?_eq_some_iff.1 hy).2] at kk
      have k1 := HI.out.2.cell (show W5.cell? ⟨hg, i * 4 + 1, none⟩ = some (.int .i64 (y.ten : Nat)) from kk 1 (by decide)) hgg
      have k2 := HI.out.2.cell (show W5.cell? ⟨hg, i * 4 + 2, none⟩ = some (.int .i64 y.m.b) from kk 2 (by decide)) hgg
      have k3 := HI.out.2.cell (show W5.cell? ⟨hg, i * 4 + 3, none⟩ = some (.int .i64 y.m.e) from kk 3 (by decide)) hgg
      have c1 : (0 : Int) ≤ (i : Int) := by omega
      have c2 : (i : Int) < (nh : Int) := by omega
      have hiw : IntKind.i64.wrap ((i : Int) + 1) = ((i + 1 : Nat) : Int) := by rw [IntKind.wrap_i64]; have := HLL.out; omega
      have HLT := hid hlt
      have HSU := hid (heldL_succ k S.hs i hy)
      have HGG := hid (And.intro hqg hgg)
      clear kk hlt hy hqg hgg
      by_cases he : y.ten = k
      · have hbe : ((y.ten : Int) == (k : Int)) = true := by simp [he]
        have hbe2 : (y.ten == k) = true := by simp [he]
        rw [if_pos he] at HSU
        obtain ⟨hl, hhl⟩ : ∃ u, u = heldL k (S.hs.take i) := ⟨_, rfl⟩
        obtain ⟨hm, hhm⟩ : ∃ u, u = heldL k (S.hs.take (i + 1)) := ⟨_, rfl⟩
        have hn1 := HNUM.out i
        have hn2 := HNUM.out (i + 1)
        have hsu := HSU.out
        rw [← hhl, ← hhm] at hsu
        rw [← hhl] at hn1 HI
        rw [← hhm] at hn2
        obtain ⟨mb, hmb⟩ : ∃ u : Int, u = max 0 y.m.b := ⟨_, rfl⟩
        obtain ⟨me, hme⟩ : ∃ u : Int, u = max 0 y.m.e := ⟨_, rfl⟩
        have hs1 : hm.b = hl.b + mb := by rw [hsu, hmb]; rfl
        have hs2 : hm.e = hl.e + me := by rw [hsu, hme]; rfl
        unfold Us.inn at hn1 hn2
        have hw1 : IntKind.i64.wrap (d.b - hl.b - mb) = d.b - hm.b := by rw [hs1]; have := HD.out; rw [show d.b - hl.b - mb = d.b - (hl.b + mb) by omega]; exact wrap_in (by omega) (by omega)
        have hw2 : IntKind.i64.wrap (d.e - hl.e - me) = d.e - hm.e := by rw [hs2]; have := HD.out; rw [show d.e - hl.e - me = d.e - (hl.e + me) by omega]; exact wrap_in (by omega) (by omega)
        obtain ⟨p0, hp0⟩ : ∃ u : Int, u = d.b - hl.b := ⟨_, rfl⟩
        obtain ⟨p1, hp1⟩ : ∃ u : Int, u = d.e - hl.e := ⟨_, rfl⟩
        obtain ⟨q0, hq0⟩ : ∃ u : Int, u = d.b - hm.b := ⟨_, rfl⟩
        obtain ⟨q1, hq1⟩ : ∃ u : Int, u = d.e - hm.e := ⟨_, rfl⟩
        rw [← hp0, ← hq0] at hw1
        rw [← hp1, ← hq1] at hw2
        rw [← hp0, ← hp1] at HI
        rw [hmb] at hw1
        rw [hme] at hw2
        have HQ01 : Hid (q0 = d.b - (heldL k (S.hs.take (i + 1))).b ∧ q1 = d.e - (heldL k (S.hs.take (i + 1))).e) := hid (by rw [← hhm]; exact ⟨hq0, hq1⟩)
        obtain ⟨t0, t1, f0, f1⟩ := HI.out.1.c2
        clear he hn1 hn2 hsu hhl hhm hmb hme hs1 hs2 hp0 hp1 hq0 hq1 HSU
        go_upto_region 9 with fail
        go_region
        all_goals
          obtain ⟨W9, hW9⟩ : ∃ W, W = (wr.setCell ⟨g5, 0, none⟩ (.int .i64 q0)).drew := ⟨_, rfl⟩
          have hk9 : Kept (· = g5) wr W9 := by rw [hW9]; exact ((Kept.refl (· = g5) wr).setCell ⟨g5, 0, none⟩ _ (.inl rfl)).drew
          have HB9 : Hid (Blk W9 g5 #[.int .i64 q0, .int .i64 p1] 31) := hid (by
            rw [hW9]
            have h9 := (HI.out.1.set 0 (.int .i64 q0)).kept (show Same _ (World.drew _) from (Kept.refl _ _).drew) (fun f => f)
            simpa using h9)
          have HK9 := hid (Kept.trans HI.out.2 hk9 (fun _ _ e => e) (fun _ _ e => e))
          have x29 := hk9.cell x2 HGG.out.1
          have k39 := hk9.cell k3 HGG.out.2
          obtain ⟨t0', t1', f0', f1'⟩ := HB9.out.c2
          rw [← hW9]
          clear hW9 hk9 x2 k1 k2 k3 t0 t1 f0 f1
          go_upto_region 10 with fail
          go_region
          all_goals
            obtain ⟨WA, hWA⟩ : ∃ W, W = (W9.setCell ⟨g5, 1, none⟩ (.int .i64 q1)).drew := ⟨_, rfl⟩
            have hkA : Kept (· = g5) W9 WA := by rw [hWA]; exact ((Kept.refl (· = g5) W9).setCell ⟨g5, 1, none⟩ _ (.inl rfl)).drew
            have HBA : Hid (Blk WA g5 #[.int .i64 q0, .int .i64 q1] 31) := hid (by
              rw [hWA]
              have h9 := (HB9.out.set 1 (.int .i64 q1)).kept (show Same _ (World.drew _) from (Kept.refl _ _).drew) (fun f => f)
              simpa using h9)
            have HKA := hid (Kept.trans HK9.out hkA (fun _ _ e => e) (fun _ _ e => e))
            rw [← hWA]
            clear hWA hkA x29 k39 t0' t1' f0' f1'
            go_wp2_with fail
            go_roundg (gk - 1)
            case measure => have := HLT.out; omega
            case rel => exact ⟨i + 1, by go_num, HLT.out, by omega, hid ⟨by rw [← HQ01.out.1, ← HQ01.out.2]; exact HBA.out, HKA.out⟩⟩
      · have hbe : ((y.ten : Int) == (k : Int)) = false := by simp; omega
        have hbe2 : (y.ten == k) = false := by simpa using he
        rw [if_neg he] at HSU
        have HI2 : Hid (Blk wr g5 #[.int .i64 (d.b - (heldL k (S.hs.take (i + 1))).b), .int .i64 (d.e - (heldL k (S.hs.take (i + 1))).e)] 31 ∧ Kept (· = g5) W5 wr) := hid (by rw [HSU.out]; exact HI.out)
        clear he HSU
        go_wp2_with fail
        go_roundg (gk - 1)
        case measure => have := HLT.out; omega
        case rel => exact ⟨i + 1, by go_num, HLT.out, by omega, HI2⟩
    · have e1 : decide ((i : Int) < (nh : Int)) = false := by simp; omega
      have e2 : decide (i < nh) = false := by simp; omega
      have htk : S.hs.take i = S.hs := List.take_of_length_le (by have := HNH.out; omega)
      obtain ⟨sd, hsd⟩ : ∃ u, u = d.sub (heldL k S.hs) := ⟨_, rfl⟩
      have HBF : Hid (Blk wr g5 #[.int .i64 sd.b, .int .i64 sd.e] 31) := hid (by have h9 := HI.out.1; rw [htk] at h9; rw [hsd]; exact h9)
      have HBX := hid (HB5x.out.kept HI.out.2 (fun e => by have := HXG.out; omega))
      have HKX : Hid (Same w wr) := hid ((Same.trans HK1.out.1 HK5.out).then HI.out.2 (fun x hx e => by have := HXG.out; have := HK1.out.2; omega))
      obtain ⟨t0, t1, _, _⟩ := HBF.out.c2
      obtain ⟨z0, z1, z2, z3⟩ := HBX.out.c2
      obtain ⟨m0, hm0⟩ : ∃ m, m = max 0 sd.b := ⟨_, rfl⟩
      obtain ⟨m1, hm1⟩ : ∃ m, m = max 0 sd.e := ⟨_, rfl⟩
      have HUP : Hid ((⟨m0, m1⟩ : Us) = leftQ xs S k) := hid (by rw [HLQ.out, ← hsd, hm0, hm1]; rfl)
      clear hlt htk hsd
      go_wp2_with fail
      rw [← hm0, ← hm1]
      refine bodyPost_ret (v := .tuple #[.agg #[.int .i64 m0, .int .i64 m1], .int .i64 0]) (by rw [results_17b (p := 4) (b := 5) (ty := 31) rfl _ _ _ _ _ ⟨xb, 0, none⟩ _ rfl (loadU (set17 HBX.out).1)]; rfl) rfl ?_
      refine ⟨by rw [← HUP.out], HKX.out.then (set17 HBX.out).2 (fun k hk e => by have := HK1.out.2; omega)⟩

theorem rqleft_any (h : Rq N w q lv uv hv xs S) (hi : Qv xs S) (hL : S.hs.length ≤ 1000000) (t : ByteArray) : Calls Tryd.prog 26 #[.pointer (some ⟨q, 0, none⟩), .string t] w fun e w' => e = .returned (leftV xs S t) ∧ Same w w' := by
  unfold leftV
  cases hx : idxT xs t with
  | none => exact rqleft_none h hi t hx
  | some k => exact rqleft_some h hi hL t hx

end

end Go.Proofs.YtjlkchjcmiljjaaDoor
