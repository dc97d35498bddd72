/-
  Layer 17, the reference: gone.
-/
import Derived.Test.YtjlkchjcmiljjaaDoorQtR
import Derived.Test.YtjlkchjcmiljjaaDoorAppN
namespace Go.Proofs.YtjlkchjcmiljjaaDoor
open Go.RowKit Go.Maps

section
variable {α : Type} {B t k : Nat} {enc : α → List Value} {w : World} {g n cap : Nat} {xs : List α}

theorem RowC.cellsTake (ok : EncOk enc k) (h : RowC B t k enc w (.slice (some ⟨g, 0, none⟩) n cap) xs) (j : Nat) : CellsAt w ⟨g, 0, none⟩ ((xs.take j).flatMap enc) := by
  have hl := h.len
  subst hl
  intro i u hu
  have hi := (List.getElem?_eq_some_iff.1 hu).1
  have h2 : ((xs.take j ++ xs.drop j).flatMap enc)[i]? = some u := by
    rw [List.flatMap_append, List.getElem?_append_left hi]
    exact hu
  rw [List.take_append_drop] at h2
  have hlt : i < xs.length * k := by rw [← flat_length ok xs]; exact (List.getElem?_eq_some_iff.1 h2).1
  rw [addAt, Nat.zero_add, h.cellAt i hlt, h2]

theorem RowC.cellsDrop (ok : EncOk enc k) (h : RowC B t k enc w (.slice (some ⟨g, 0, none⟩) n cap) xs) (j : Nat) (hj : j ≤ xs.length) : CellsAt w ⟨g, j * k, none⟩ ((xs.drop j).flatMap enc) := by
  have hl := h.len
  subst hl
  intro i u hu
  have hlen : ((xs.take j).flatMap enc).length = j * k := by rw [flat_length ok, List.length_take, Nat.min_eq_left hj]
  have h2 : ((xs.take j ++ xs.drop j).flatMap enc)[j * k + i]? = some u := by
    rw [List.flatMap_append, List.getElem?_append_right (by omega), hlen, Nat.add_sub_cancel_left]
    exact hu
  rw [List.take_append_drop] at h2
  have hlt : j * k + i < xs.length * k := by rw [← flat_length ok xs]; exact (List.getElem?_eq_some_iff.1 h2).1
  rw [addAt, h.cellAt (j * k + i) hlt, h2]
end

theorem Tryd.infoHd17 : (Tryd.prog.info? 78).map (fun i => (i.zero, i.size, i.bytes)) = some (some (.agg #[.int .i64 0, .int .i64 0, .int .i64 0, .int .i64 0]), 4, 32) := by kernel_rfl
theorem Tryd.sizeHd17 : (Tryd.prog.info? 78).map (·.size) = some 4 := by kernel_rfl

theorem loadHd {W : World} {g : Nat} {x y z v : Value} {ty : TypeId} (hb : Blk W g #[x, y, z, v] ty) : (loadVar 78 ⟨g, 0, none⟩).run Tryd.prog W = .ok (.agg #[x, y, z, v]) W :=
  run_load15 78 4 _ Tryd.underlying78 rfl Tryd.sizeHd17 hb [x, y, z, v] rfl rfl

theorem set17h {w : World} {g : Nat} {a0 a1 a2 a3 x0 x1 x2 x3 : Value} {t : TypeId} (hb : Blk w g #[a0, a1, a2, a3] t) : Blk ((((w.setCell ⟨g, 0, none⟩ x0).setCell ⟨g, 1, none⟩ x1).setCell ⟨g, 2, none⟩ x2).setCell ⟨g, 3, none⟩ x3) g #[x0, x1, x2, x3] t ∧ Kept (· = g) w ((((w.setCell ⟨g, 0, none⟩ x0).setCell ⟨g, 1, none⟩ x1).setCell ⟨g, 2, none⟩ x2).setCell ⟨g, 3, none⟩ x3) := by
  refine ⟨?_, ((((Kept.refl (· = g) w).setCell _ _ (.inl rfl)).setCell _ _ (.inl rfl)).setCell _ _ (.inl rfl)).setCell _ _ (.inl rfl)⟩
  have h9 := (((hb.set 0 x0).set 1 x1).set 2 x2).set 3 x3
  simpa using h9

theorem Blk.c4f {w : World} {g : Nat} {a b c d : Value} {t : TypeId} (hb : Blk w g #[a, b, c, d] t) : w.cell? ⟨g, 0, none⟩ = some a ∧ w.cell? ⟨g, 1, none⟩ = some b ∧ w.cell? ⟨g, 2, none⟩ = some c ∧ w.cell? ⟨g, 3, none⟩ = some d ∧ w.frozen? ⟨g, 0, none⟩ = false ∧ w.frozen? ⟨g, 1, none⟩ = false ∧ w.frozen? ⟨g, 2, none⟩ = false ∧ w.frozen? ⟨g, 3, none⟩ = false :=
  ⟨hb.cell 0, hb.cell 1, hb.cell 2, hb.cell 3, hb.frozen 0, hb.frozen 1, hb.frozen 2, hb.frozen 3⟩

theorem Sq.find_take {S : Sq} {id : Int} {i : Nat} {x : Hd} (hx : S.hs[i]? = some x) (hn : ∀ y ∈ S.hs.take i, (y.id : Int) ≠ id) (he : (x.id : Int) = id) : S.find id = some x ∧ (S.gone id).hs = S.hs.take i ++ S.hs.drop (i + 1) := by
  obtain ⟨hi, hx2⟩ := List.getElem?_eq_some_iff.1 hx
  have h2 : S.hs = S.hs.take i ++ (x :: S.hs.drop (i + 1)) := by
    have h3 := (List.take_append_drop i S.hs).symm
    rw [List.drop_eq_getElem_cons hi, hx2] at h3
    exact h3
  constructor
  · unfold Sq.find
    rw [h2, List.find?_append, List.find?_eq_none.2 (fun y hy => by simpa using hn y hy)]
    simp [he]
  · unfold Sq.gone
    have h4 : ∀ l : List Hd, l = S.hs.take i ++ (x :: S.hs.drop (i + 1)) → l.eraseP (fun h => decide ((h.id : Int) = id)) = S.hs.take i ++ S.hs.drop (i + 1) := fun l e => by
      rw [e, List.eraseP_append_right _ (fun y hy => by simpa using hn y hy), List.eraseP_cons_of_pos (p := fun h : Hd => decide ((h.id : Int) = id)) (by simpa using he)]
    exact h4 _ h2

theorem Sq.find_no {S : Sq} {id : Int} (hn : ∀ y ∈ S.hs, (y.id : Int) ≠ id) : S.find id = none := by
  unfold Sq.find
  exact List.find?_eq_none.2 (fun y hy => by simpa using hn y hy)

/-- What gone says of a reservation. -/
def hdV (o : Option Hd) : Value := match o with | none => .tuple #[.agg #[.int .i64 0, .int .i64 0, .int .i64 0, .int .i64 0], .bool false] | some x => .tuple #[.agg #[.int .i64 (x.id : Nat), .int .i64 (x.ten : Nat), .int .i64 x.m.b, .int .i64 x.m.e], .bool true]

section
variable {N : Nat} {w : World} {q : Nat} {lv uv hv : Value} {xs : List Tn} {S : Sq}

set_option maxRecDepth 100000 in
set_option maxHeartbeats 4000000 in
theorem rqgone_any (h : Rq N w q lv uv hv xs S) (hNw : N ≤ w.heap.size) (hL : S.hs.length ≤ 1000000) (id : Int) : Calls Tryd.prog 39 #[.pointer (some ⟨q, 0, none⟩), .int .i64 id] w fun e w' => e = .returned (hdV (S.find id)) ∧ (∃ hv', Rq N w' q lv uv hv' xs (freeS S id)) ∧ Kept (· = q) w w' := by
  obtain ⟨W1, hW1⟩ : ∃ W, W = w.alloc (.cells #[.int .i64 0, .int .i64 0, .int .i64 0, .int .i64 0] 78) := ⟨_, rfl⟩
  obtain ⟨xb, hxb⟩ : ∃ b, b = w.heap.size := ⟨_, rfl⟩
  have HK1 : Hid (Same w W1 ∧ w.heap.size ≤ xb) := hid ⟨by rw [hW1]; exact (Kept.refl _ w).alloc _, by omega⟩
  have HB : Hid (Blk W1 xb #[.int .i64 0, .int .i64 0, .int .i64 0, .int .i64 0] 78) := hid (by rw [hW1, hxb]; exact Blk.new w _ _)
  have H1 := hid (h.same HK1.out.1)
  obtain ⟨ha, hc, eh, hgne, _, hcp, _⟩ := H1.out.hel.shape
  have x2 := H1.out.blk.cell 2
  simp only [List.getElem?_toArray, List.getElem?_cons_succ, List.getElem?_cons_zero] at x2
  have HRW := hid H1.out.hel
  rw [eh] at x2 HRW
  obtain ⟨nh, hnh⟩ : ∃ n, n = S.hs.length := ⟨_, rfl⟩
  rw [← hnh] at x2 HRW hL hcp eh
  have HNH := hid hnh
  have HEH := hid eh
  have HGN := hid hgne
  have HL := hid (And.intro hL hNw)
  have HCP := hid hcp
  have HXB : Hid (∀ j, hv.ownBlock = some j → j < xb) := hid (fun j e => by rw [hxb]; exact h.hel.lt e)
  clear h eh hgne hnh hL hNw
  go_enter Tryd.func39, Tryd.ntmps39
  go_upto_region 1 with fail
  rw [← hW1, ← hxb]
  clear hW1 hxb
  go_wp2_with fail
  go_loopg [6] nh (fun qq z6 wr => ∃ i : Nat, z6 = .int .i64 (i : Nat) ∧ i ≤ nh ∧ nh - i ≤ qq ∧ wr = W1 ∧ Hid (∀ y ∈ S.hs.take i, (y.id : Int) ≠ id))
  case atStart => exact ⟨0, rfl, by omega, by omega, rfl, hid (fun y hy => (by cases hy))⟩
  case round =>
    obtain ⟨i, rfl, hi, hiq, rfl, HI⟩ := hrel
    by_cases hlt : i < nh
    · have e1 : decide ((i : Int) < (nh : Int)) = true := by simp; omega
      have e2 : decide (i < nh) = true := by simp; omega
      obtain ⟨x, hx⟩ : ∃ x, S.hs[i]? = some x := ⟨_, List.getElem?_eq_getElem (by rw [← HNH.out]; exact hlt)⟩
      obtain ⟨g, rfl⟩ := HGN.out (fun e => by rw [e] at hx; simp at hx)
      have k := fun (j : Nat) (hj : j < 4) => HRW.out.cell hdE_ok i j (by rw [← HNH.out]; exact hlt) hj
      rw [(List.getElem?_eq_some_iff.1 hx).2] at k
      have k0 : wr.cell? ⟨g, i * 4, none⟩ = some (.int .i64 (x.id : Nat)) := k 0 (by decide)
      have k1 : wr.cell? ⟨g, i * 4 + 1, none⟩ = some (.int .i64 (x.ten : Nat)) := k 1 (by decide)
      have k2 : wr.cell? ⟨g, i * 4 + 2, none⟩ = some (.int .i64 x.m.b) := k 2 (by decide)
      have k3 : wr.cell? ⟨g, i * 4 + 3, none⟩ = some (.int .i64 x.m.e) := k 3 (by decide)
      clear k
      have c1 : (0 : Int) ≤ (i : Int) := by omega
      have c2 : (i : Int) < (nh : Int) := by omega
      have hiw : IntKind.i64.wrap ((i : Int) + 1) = ((i + 1 : Nat) : Int) := by rw [IntKind.wrap_i64]; have := HL.out.1; omega
      have HX := hid hx
      have HLT := hid hlt
      have HTK : Hid (S.hs.take (i + 1) = S.hs.take i ++ [x]) := hid (by rw [List.take_add_one, hx]; rfl)
      clear hx hlt
      by_cases he : (x.id : Int) = id
      · have hbe : ((x.id : Int) == id) = true := by simpa using he
        have HSE := hid (Sq.find_take HX.out HI.out he)
        obtain ⟨W5, hW5⟩ : ∃ W, W = wr.alloc (.cells #[.int .i64 (x.id : Nat), .int .i64 (x.ten : Nat), .int .i64 x.m.b, .int .i64 x.m.e] 78) := ⟨_, rfl⟩
        obtain ⟨g5, hg5⟩ : ∃ b, b = wr.heap.size := ⟨_, rfl⟩
        have HB5 : Hid (Blk W5 g5 #[.int .i64 (x.id : Nat), .int .i64 (x.ten : Nat), .int .i64 x.m.b, .int .i64 x.m.e] 78) := hid (by rw [hW5, hg5]; exact Blk.new wr _ _)
        have HK5 : Hid (Same wr W5) := hid (by rw [hW5]; exact (Kept.refl _ _).alloc _)
        clear he
        go_upto_region 6 with fail
        rw [← hW5, ← hg5]
        clear hW5 hg5 k0 k1 k2 k3 x2
        have hx2 := H1.out.blk.cell 2
        simp only [List.getElem?_toArray, List.getElem?_cons_succ, List.getElem?_cons_zero] at hx2
        rw [HEH.out] at hx2
        have x2 := HK5.out.cell hx2 (fun f => f)
        have HR5 := hid (HRW.out.kept HK5.out (fun _ _ f => f))
        have HQ5 := hid (H1.out.same HK5.out)
        have HT : Hid ((S.hs.take i).length = i ∧ (S.hs.drop (i + 1)).length = nh - (i + 1)) := hid ⟨by rw [List.length_take]; have := HLT.out; have := HNH.out; omega, by rw [List.length_drop, HNH.out]⟩
        have c3 : (i : Int) ≤ (hc : Int) := by have := HLT.out; omega
        have c4 : i ≤ hc := by have := HLT.out; omega
        have c5 : i + 1 ≤ nh := HLT.out
        have c6 : ((i + 1 : Nat) : Int) ≤ (nh : Int) := by have := HLT.out; omega
        have c7 : (0 : Int) ≤ ((i + 1 : Nat) : Int) := by omega
        clear hx2
        rcases Decidable.em (hc = i + 1) with hcz | hcz
        all_goals
          go_upto_region 9 with (first
            | (at_builtin; refine wpList_append_12 _ hdE 4 hdE_ok (by decide) W5.heap.size 62 78 (.agg #[.int .i64 0, .int .i64 0, .int .i64 0, .int .i64 0]) 32 Tryd.underlying62 Tryd.infoHd17 rfl (by decide) rfl (.tmp 35) (.tmp 41) rfl (.slice none 0 0) [] rfl RowC.nil _ _ _ (S.hs.take i) rfl HT.out.1 (fun ad e => by injection e with e; subst e; exact HR5.out.cellsTake hdE_ok i) (fun e => by cases e) (by rw [HT.out.1]; have := HLT.out; have := HL.out.1; simp; omega) (Nat.le_refl _) ?_; intro v7 w7 hr7 hg7; have hk7 : Same W5 w7 := (Kept.refl _ _).grown hg7 (fun k e => (by cases e)); have HR7 : Hid (RowC W5.heap.size 78 4 hdE w7 v7 (S.hs.take i)) := hid (by simpa using hr7); have HQ7 := hid (HQ5.out.same hk7); have HR75 := hid (HR5.out.kept hk7 (fun _ _ f => f)); have HK7 := hid hk7; have x7 := hk7.cell x2 (fun f => f); clear hr7 hg7 hk7 x2; obtain ⟨a7, n7, c7', e7⟩ : ∃ a n c, v7 = Value.slice a n c := (by obtain ⟨a, c, e, _⟩ := HR7.out.shape; exact ⟨a, _, c, e⟩); subst e7)
            | (at_builtin; refine wpList_append_12 _ hdE 4 hdE_ok (by decide) W5.heap.size 62 78 (.agg #[.int .i64 0, .int .i64 0, .int .i64 0, .int .i64 0]) 32 Tryd.underlying62 Tryd.infoHd17 rfl (by decide) rfl (.tmp 44) (.tmp 51) rfl (.slice a7 n7 c7') (S.hs.take i) rfl HR7.out _ _ _ (S.hs.drop (i + 1)) rfl HT.out.2 (fun ad e => by injection e with e; subst e; first | exact HR75.out.cellsDrop hdE_ok (i + 1) (by have := HLT.out; have := HNH.out; omega) | (intro j u hu; rw [List.drop_eq_nil_of_le (by have := HCP.out; have := HNH.out; omega)] at hu; simp at hu)) (fun e => by cases e) (by rw [HT.out.1, HT.out.2]; have := HLT.out; have := HL.out.1; omega) HK7.out.size ?_; intro v8 w8 hr8 hg8; have hk8 : Kept (fun k => (Value.slice a7 n7 c7').ownBlock = some k) w7 w8 := (Kept.refl _ _).grown hg8 (fun k e => .inl e); have HR8 : Hid (RowC W5.heap.size 78 4 hdE w8 v8 (S.hs.take i ++ S.hs.drop (i + 1))) := hid hr8; have HK8 := hid hk8; obtain ⟨a8, n8, c8, e8⟩ : ∃ a n c, v8 = Value.slice a n c := (by obtain ⟨a, c, e, _⟩ := HR8.out.shape; exact ⟨a, _, c, e⟩); subst e8; have HBK8 := hid (HQ7.out.blk.kept hk8 (fun e => HR7.out.offB HQ7.out.blk (by decide) e)); have q2 := HBK8.out.cell 2; have q2f := HBK8.out.frozen 2; simp only [List.getElem?_toArray, List.getElem?_cons_succ, List.getElem?_cons_zero] at q2; clear hr8 hg8 hk8))
          obtain ⟨W9, hW9⟩ : ∃ W, W = w8.setCell ⟨q, 2, none⟩ (.slice a8 n8 c8) := ⟨_, rfl⟩
          have hb9 : Blk W9 q #[lv, uv, .slice a8 n8 c8, .int .i64 (S.last : Nat)] 64 := by
            rw [hW9]
            have h9 := HBK8.out.set 2 (.slice a8 n8 c8)
            simpa using h9
          have hk9 : Kept (· = q) w8 W9 := by rw [hW9]; exact (Kept.refl (· = q) w8).setCell ⟨q, 2, none⟩ _ (.inl rfl)
          have hs58 : Same W5 w8 := HK7.out.then HK8.out (fun j hj e => by have := HR7.out.ge e; omega)
          have hk19 : Kept (· = q) wr W9 := Kept.trans (Same.trans HK5.out hs58) hk9 (fun _ _ f => f.elim) (fun _ _ e => e)
          have HB59 := hid ((HB5.out.kept hs58 (fun f => f)).kept hk9 (fun e => Blk.ne (HB5.out.kept hs58 (fun f => f)) HBK8.out (by decide) e))
          have HBx9 := hid (HB.out.kept hk19 (fun e => Blk.ne HB.out H1.out.blk (by decide) e))
          have HR9 : Hid (Rq N W9 q lv uv (.slice a8 n8 c8) xs (S.gone id)) := hid ⟨hb9, H1.out.ten.kept tnE_ok hk19 (fun j hj _ e => by have := H1.out.ge; omega), H1.out.use.kept hk19 (fun j e f => H1.out.use.offB H1.out.blk (by decide) (by rw [e, f])), by rw [HSE.out.2]; exact (HR8.out.kept hk9 (fun j e f => HR8.out.offB HBK8.out (by decide) (by rw [e, f]))).base (by have := HL.out.2; have := HK1.out.1.size; have := HK5.out.size; omega), H1.out.ge⟩
          have HX9 : Hid (xb < W5.heap.size ∧ W5.heap.size ≤ W9.heap.size) := hid ⟨by have := HB.out.lt; have := HK5.out.size; omega, by have := hs58.size; have := hk9.size; omega⟩
          have HK19 := hid hk19
          have HR8g := hid (fun j (e : (Value.slice a8 n8 c8).ownBlock = some j) => HR8.out.ge e)
          rw [← hW9]
          clear hW9 hb9 hk9 hs58 hk19 q2 q2f x7
          obtain ⟨y0, y1, y2, y3⟩ := HB59.out.c4
          obtain ⟨z0, z1, z2, z3, z4, z5, z6, z7⟩ := HBx9.out.c4f
          go_wp2_with fail
          refine bodyPost_ret (v := hdV (some x)) (by rw [results_17b (p := 4) (b := 5) (ty := 78) rfl _ _ _ _ _ ⟨xb, 0, none⟩ _ rfl (loadHd (set17h HBx9.out).1)]; rfl) rfl ?_
          refine ⟨by rw [HSE.out.1], ⟨.slice a8 n8 c8, ?_⟩, ?_⟩
          · unfold freeS
            rw [HSE.out.1]
            exact HR9.out.kept (set17h HBx9.out).2 (fun k hk e => by have := HK1.out.2; have := HL.out.2; omega) (fun e => Blk.ne HR9.out.blk HBx9.out (by decide) e) (fun j e f => HR9.out.use.offB HBx9.out (by decide) (by rw [e, f])) (fun j e f => by have := HR8g.out j e; have := HX9.out; omega)
          · have h9 : Kept (· = q) w W9 := Kept.trans HK1.out.1 HK19.out (fun _ _ f => f.elim) (fun _ _ e => e)
            exact Kept.trans h9 (set17h HBx9.out).2 (fun _ _ e => e) (fun k hk e => by have := HK1.out.2; omega)
      · have hbe : ((x.id : Int) == id) = false := by simpa using he
        have HNX : Hid (∀ y ∈ S.hs.take (i + 1), (y.id : Int) ≠ id) := hid (fun y hy => by
          rw [HTK.out] at hy
          rcases List.mem_append.1 hy with hy | hy
          · exact HI.out y hy
          · rw [List.mem_singleton] at hy; rw [hy]; exact he)
        clear he
        go_wp2_with fail
        go_roundg (gk - 1)
        case measure => have := HLT.out; omega
        case rel => exact ⟨i + 1, by go_num, HLT.out, by omega, rfl, HNX⟩
    · have e1 : decide ((i : Int) < (nh : Int)) = false := by simp; omega
      have e2 : decide (i < nh) = false := by simp; omega
      have HSE : Hid (S.find id = none) := hid (Sq.find_no (fun y hy => HI.out y (by rw [List.take_of_length_le (by have := HNH.out; omega)]; exact hy)))
      obtain ⟨z0, z1, z2, z3, z4, z5, z6, z7⟩ := HB.out.c4f
      clear hlt
      go_wp2_with fail
      refine bodyPost_ret (v := hdV none) (by rw [results_17b (p := 4) (b := 5) (ty := 78) rfl _ _ _ _ _ ⟨xb, 0, none⟩ _ rfl (loadHd (set17h HB.out).1)]; rfl) rfl ?_
      refine ⟨by rw [HSE.out], ⟨hv, ?_⟩, ?_⟩
      · unfold freeS
        rw [HSE.out]
        exact H1.out.kept (set17h HB.out).2 (fun k hk e => by have := HK1.out.2; have := HL.out.2; omega) (fun e => Blk.ne H1.out.blk HB.out (by decide) e) (fun j e f => H1.out.use.offB HB.out (by decide) (by rw [e, f])) (fun j e f => by have := HXB.out j e; omega)
      · exact HK1.out.1.then (set17h HB.out).2 (fun k hk e => by have := HK1.out.2; omega) |>.mono (fun _ _ f => f.elim)

end

end Go.Proofs.YtjlkchjcmiljjaaDoor
