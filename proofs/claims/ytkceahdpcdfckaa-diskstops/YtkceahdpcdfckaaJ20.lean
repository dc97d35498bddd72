/-
  Of the proof: parts DlF, DlG, DlH, DlI, DlJ, DlK, DlStops.
-/
import Derived.Deep.Slices
import Derived.Deep.Strs
import Derived.Test.YtkceahdpcdfckaaJ18
import Derived.Test.YtkceahdpcdfckaaJ19

/-
  Layer 9's law: scripts that came in.
-/
namespace Go.Proofs.Ytkceahdpcdfckaa
open Go.ChangeShapes Go.WideShapes Go.ChangeAt Go.RowKit Go.Deep Go.Maps

/-- A call of a script. -/
structure O9 where
  k : Int
  a : ByteArray
  b : ByteArray
  da : Option Addr
  dn : Nat
  dc : Nat
  bs : List Nat
  n : Int
  ca : Option Addr
  cn : Nat
  cc : Nat
  cs : List Int

instance : Inhabited O9 := ⟨⟨0, ⟨#[]⟩, ⟨#[]⟩, none, 0, 0, [], 0, none, 0, 0, []⟩⟩

/-- It can be read. -/
structure OpOk (W : World) (I : Nat → Prop) (x : O9) : Prop where
  src : Src W I (.slice x.da x.dn x.dc) x.bs
  len : x.bs.length = x.dn
  byte : ∀ b ∈ x.bs, b < 256
  nil : ∀ n c, Value.slice x.da x.dn x.dc = .slice none n c → n = 0 ∧ c = 0
  ints : SrcE intV W I (.slice x.ca x.cn x.cc) x.cs
  clen : x.cs.length = x.cn
  rng : ∀ c ∈ x.cs, -9223372036854775808 ≤ c ∧ c ≤ 9223372036854775807
  num : -9223372036854775808 ≤ x.n ∧ x.n ≤ 9223372036854775807

theorem OpOk.kept {W W' : World} {I F : Nat → Prop} {x : O9} (h : OpOk W I x) (hk : Kept F W W') (hF : ∀ k, I k → k < W.heap.size → ¬ F k) : OpOk W' I x :=
  ⟨h.src.kept hk hF, h.len, h.byte, h.nil, h.ints.kept hk hF, h.clen, h.rng, h.num⟩

def opC (x : O9) : Array Value := #[.int .i64 x.k, .string x.a, .string x.b, .slice x.da x.dn x.dc, .int .i64 x.n, .slice x.ca x.cn x.cc]

/-- The cells of a call at an address. -/
def OpAt (W : World) (b o : Nat) (x : O9) : Prop :=
  W.cell? ⟨b, o, none⟩ = some (.int .i64 x.k) ∧ W.cell? ⟨b, o + 1, none⟩ = some (.string x.a) ∧ W.cell? ⟨b, o + 2, none⟩ = some (.string x.b) ∧ W.cell? ⟨b, o + 3, none⟩ = some (.slice x.da x.dn x.dc) ∧ W.cell? ⟨b, o + 4, none⟩ = some (.int .i64 x.n) ∧ W.cell? ⟨b, o + 5, none⟩ = some (.slice x.ca x.cn x.cc)

theorem OpAt.kept {W W' : World} {F : Nat → Prop} {b o : Nat} {x : O9} (h : OpAt W b o x) (hk : Kept F W W') (hF : ¬ F b) : OpAt W' b o x :=
  ⟨hk.cell h.1 hF, hk.cell h.2.1 hF, hk.cell h.2.2.1 hF, hk.cell h.2.2.2.1 hF, hk.cell h.2.2.2.2.1 hF, hk.cell h.2.2.2.2.2 hF⟩

/-- A script. -/
def Ops9 (W : World) (I : Nat → Prop) (a : Option Addr) (len : Nat) (O : Nat → O9) : Prop :=
  ∀ j, j < len → OpOk W I (O j) ∧ ∃ b o, a = some ⟨b, o, none⟩ ∧ I b ∧ OpAt W b (o + j * 6) (O j)

theorem Ops9.kept {W W' : World} {I F : Nat → Prop} {a : Option Addr} {len : Nat} {O : Nat → O9} (h : Ops9 W I a len O) (hk : Kept F W W') (hF : ∀ k, I k → k < W.heap.size → ¬ F k) : Ops9 W' I a len O := fun j hj => by
  obtain ⟨h1, b, o, h2, h3, h4⟩ := h j hj
  exact ⟨h1.kept hk hF, b, o, h2, h3, h4.kept hk (hF b h3 (World.block_lt_of_cell? W _ h4.1))⟩

theorem Ops9.mono {W : World} {I J : Nat → Prop} {a : Option Addr} {len : Nat} {O : Nat → O9} (h : Ops9 W I a len O) (hJ : ∀ k, I k → J k) : Ops9 W J a len O := fun j hj => by
  obtain ⟨h1, b, o, h2, h3, h4⟩ := h j hj
  exact ⟨⟨h1.src.mono hJ, h1.len, h1.byte, h1.nil, h1.ints.mono hJ, h1.clen, h1.rng, h1.num⟩, b, o, h2, hJ b h3, h4⟩

theorem wf9 {n : Int} (h : (Lit.int .i64 n).wf = true) : -9223372036854775808 ≤ n ∧ n ≤ 9223372036854775807 := by
  simp [Lit.wf, IntKind.min, IntKind.max, IntKind.signed, IntKind.bits] at h
  exact h

theorem ints9 {w : World} {a : Option Addr} {len cap : Nat} {zs : List Int} (h : IsRow .i64 w a len cap zs) : SrcE intV w (fun k => k < w.heap.size) (.slice a len cap) (zs.take len) ∧ (zs.take len).length = len ∧ ∀ c ∈ zs.take len, -9223372036854775808 ≤ c ∧ c ≤ 9223372036854775807 := by
  have hl := h.len_le
  have hlen : (zs.take len).length = len := by simp; omega
  refine ⟨⟨a, cap, by rw [hlen], ?_, fun hne => ?_⟩, hlen, fun c hc => ?_⟩
  · rw [hlen]
    rcases h with ⟨_, rfl, _, _⟩ | ⟨x, _, h1, _⟩
    · exact Nat.zero_le _
    · exact h1
  · have hpos : 0 < len := by
      rcases Nat.eq_zero_or_pos len with e | e
      · subst e; simp at hne
      · exact e
    obtain ⟨b, o, rfl, hc⟩ := h.at 0 hpos
    refine ⟨b, o, rfl, World.block_lt_of_cell? w _ hc, fun j hj => ?_⟩
    obtain ⟨b', o', e, hc'⟩ := h.at j (by omega)
    simp only [Option.some.injEq, Addr.mk.injEq, and_true] at e
    obtain ⟨rfl, rfl⟩ := e
    rw [hc']
    have hz : j < zs.length := by omega
    simp [intV, List.getD, hz]
  · have hc2 := List.mem_of_mem_take hc
    rcases h with ⟨_, _, _, rfl⟩ | ⟨x, _, _, _, _, _, hw⟩
    · cases hc2
    · exact wf9 (hw c hc2)

theorem nil9 {k : IntKind} {w : World} {a : Option Addr} {len cap : Nat} {zs : List Int} (h : IsRow k w a len cap zs) : ∀ n c, Value.slice a len cap = .slice none n c → n = 0 ∧ c = 0 := by
  intro n c e
  simp only [Value.slice.injEq] at e
  obtain ⟨rfl, rfl, rfl⟩ := e
  rcases h with ⟨_, h1, h2, _⟩ | ⟨x, h1, _⟩
  · exact ⟨h1, h2⟩
  · cases h1

theorem Try.cellsOp9 : Try.prog.cellsOf 36 = 6 := by kernel_rfl
theorem Try.cells9s : Try.prog.cellsOf 9 = 1 := by kernel_rfl
theorem Try.cells9i : Try.prog.cellsOf 3 = 1 := by kernel_rfl
theorem Try.cells9b : Try.prog.cellsOf 33 = 1 := by kernel_rfl
theorem Try.cells9c : Try.prog.cellsOf 34 = 1 := by kernel_rfl
theorem Try.cells9u : Try.prog.cellsOf 5 = 1 := by kernel_rfl

theorem add_zero9 (x : Addr) : x.add 0 = x := by unfold Addr.add; simp

theorem six9 {w : World} {base : Nat} {x : Addr} {cs : List Value} (h : w.cells? base x 6 = some cs) : ∃ u0 u1 u2 u3 u4 u5, cs = [u0, u1, u2, u3, u4, u5] ∧ w.cell? (x.add 0) = some u0 ∧ w.cell? (x.add 1) = some u1 ∧ w.cell? (x.add 2) = some u2 ∧ w.cell? (x.add 3) = some u3 ∧ w.cell? (x.add 4) = some u4 ∧ w.cell? (x.add 5) = some u5 := by
  obtain ⟨_, hl, hc⟩ := World.cells?_some h
  match cs, hl with
  | [u0, u1, u2, u3, u4, u5], _ => exact ⟨u0, u1, u2, u3, u4, u5, rfl, by simpa using hc 0 (by omega), by simpa using hc 1 (by omega), by simpa using hc 2 (by omega), by simpa using hc 3 (by omega), by simpa using hc 4 (by omega), by simpa using hc 5 (by omega)⟩

theorem ops9_of {H : Type} {enc : TypeId × Value → H} {W : World} {a : Option Addr} {len cap fuel : Nat} {x : DataW H × List MemPlace} (h : DataW.trod enc Try.prog W 0 (fun _ => true) true fuel 31 [.slice a len cap] = some x) :
    ∃ O : Nat → O9, Ops9 W (fun k => k < W.heap.size) a len O := by
  rcases open_slice Try.underlying31 h with ⟨hcs, _⟩ | ⟨x0, l, c, m, n, D, Pl, hcs, _, hl, _, hm, hxx, hx⟩
  · simp only [List.cons.injEq, Value.slice.injEq, and_true] at hcs
    obtain ⟨rfl, rfl, rfl⟩ := hcs
    exact ⟨fun _ => default, fun j hj => by omega⟩
  · simp only [List.cons.injEq, Value.slice.injEq, and_true] at hcs
    obtain ⟨rfl, rfl, rfl⟩ := hcs
    simp only [if_true] at hm
    subst hm
    rw [Try.cellsOp9] at hx
    refine choose_lt (α := O9) (p := fun j y => OpOk W (fun k => k < W.heap.size) y ∧ ∃ b o, some x0 = some ⟨b, o, none⟩ ∧ b < W.heap.size ∧ OpAt W b (o + j * 6) y) (fun j hj => ?_)
    obtain ⟨cs0, hc0, _⟩ := hx 0 (by omega)
    obtain ⟨u0, _, _, _, _, _, _, hu0, _⟩ := six9 hc0
    rw [Nat.zero_mul, add_zero9] at hu0
    obtain ⟨b, o, rfl⟩ : ∃ b o, x0 = ⟨b, o, none⟩ := ⟨x0.block, x0.off, spot_none hu0⟩
    obtain ⟨cs, hc, ht⟩ := hx j (by omega)
    obtain ⟨k0, k1, k2, k3, k4, k5, rfl, h0, h1, h2, h3, h4, h5⟩ := six9 hc
    obtain ⟨xs, n', _, _, _, hlen, hf⟩ := DataW.trod_struct Try.underlying36 ht
    match xs, hlen with
    | [y0, y1, y2, y3, y4, y5], _ =>
      have c1 := Try.cells9i
      have c2 := Try.cells9s
      have c3 := Try.cells9b
      have c4 := Try.cells9c
      have t0 : DataW.trod enc Try.prog W 0 (fun _ => true) true n' 3 [k0] = some y0 := by simpa [c1, c2, c3, c4] using hf 0 _ rfl
      have t1 : DataW.trod enc Try.prog W 0 (fun _ => true) true n' 9 [k1] = some y1 := by simpa [c1, c2, c3, c4] using hf 1 _ rfl
      have t2 : DataW.trod enc Try.prog W 0 (fun _ => true) true n' 9 [k2] = some y2 := by simpa [c1, c2, c3, c4] using hf 2 _ rfl
      have t3 : DataW.trod enc Try.prog W 0 (fun _ => true) true n' 33 [k3] = some y3 := by simpa [c1, c2, c3, c4] using hf 3 _ rfl
      have t4 : DataW.trod enc Try.prog W 0 (fun _ => true) true n' 3 [k4] = some y4 := by simpa [c1, c2, c3, c4] using hf 4 _ rfl
      have t5 : DataW.trod enc Try.prog W 0 (fun _ => true) true n' 34 [k5] = some y5 := by simpa [c1, c2, c3, c4] using hf 5 _ rfl
      obtain ⟨q0, e0, _, _⟩ := DataW.trod_int Try.underlying3 t0
      obtain ⟨q1, e1, _, _⟩ := DataW.trod_string Try.underlying9 t1
      obtain ⟨q2, e2, _, _⟩ := DataW.trod_string Try.underlying9 t2
      obtain ⟨q4, e4, _, w4⟩ := DataW.trod_int Try.underlying3 t4
      simp only [List.cons.injEq, and_true] at e0 e1 e2 e4
      subst e0 e1 e2 e4
      obtain ⟨a3, n3, c3', z3, rfl, w3⟩ : ∃ a len cap zs, k3 = .slice a len cap ∧ IsRow .u8 W a len cap zs := by
        rcases open_ints Try.underlying33 Try.underlying5 Try.cells9u t3 with ⟨hcs, _⟩ | ⟨x, l, c, zs, hcs, _, hl, hm, hz, _, hcell, hwz⟩
        · simp only [List.cons.injEq, and_true] at hcs
          exact ⟨none, 0, 0, [], hcs, .inl ⟨rfl, rfl, rfl, rfl⟩⟩
        · simp only [List.cons.injEq, and_true] at hcs
          exact ⟨_, _, _, zs, hcs, .inr ⟨_, rfl, hl, hm, by simpa using hz, hcell, hwz⟩⟩
      obtain ⟨a5, n5, c5', z5, rfl, w5⟩ : ∃ a len cap zs, k5 = .slice a len cap ∧ IsRow .i64 W a len cap zs := by
        rcases open_ints Try.underlying34 Try.underlying3 Try.cells9i t5 with ⟨hcs, _⟩ | ⟨x, l, c, zs, hcs, _, hl, hm, hz, _, hcell, hwz⟩
        · simp only [List.cons.injEq, and_true] at hcs
          exact ⟨none, 0, 0, [], hcs, .inl ⟨rfl, rfl, rfl, rfl⟩⟩
        · simp only [List.cons.injEq, and_true] at hcs
          exact ⟨_, _, _, zs, hcs, .inr ⟨_, rfl, hl, hm, by simpa using hz, hcell, hwz⟩⟩
      obtain ⟨bs, hs, hbl, hb⟩ := w3.src
      have hi := ints9 w5
      rw [add_zero9, addAt] at h0
      rw [addAt, addAt] at h1 h2 h3 h4 h5
      refine ⟨⟨q0, q1, q2, a3, n3, c3', bs, q4, a5, n5, c5', z5.take n5⟩, ⟨hs, hbl, hb, nil9 w3, hi.1, hi.2.1, hi.2.2, wf9 w4⟩, b, o, rfl, World.block_lt_of_cell? W _ h0, h0, h1, h2, h3, h4, h5⟩

end Go.Proofs.Ytkceahdpcdfckaa

/-
  Layer 9's law: large.
-/
namespace Go.Proofs.Ytkceahdpcdfckaa
open Go.RowKit Go.Maps

/-- A call is not too large. -/
def OpSm (x : O9) : Prop := x.dn ≤ 65536 ∧ x.cn ≤ 1000 ∧ x.a.size ≤ 65536 ∧ x.b.size ≤ 65536

/-- What large tells. -/
def LrgA (w : World) (len : Nat) (O : Nat → O9) (e : Ending) (w' : World) : Prop := ∃ r : Bool, e = .returned (.bool r) ∧ (r = false → len ≤ 1000 ∧ ∀ j, j < len → OpSm (O j)) ∧ Same w w'

set_option maxRecDepth 100000 in
set_option maxHeartbeats 1000000 in
theorem dlarge_any (w : World) (I : Nat → Prop) (a : Option Addr) (len cap : Nat) (O : Nat → O9) (h : Ops9 w I a len O) :
    Calls Try.prog 12 #[.slice a len cap] w fun e w' => LrgA w len O e w' := by
  have HO : Hid (Ops9 w I a len O) := h
  clear h
  by_cases hl : 1000 < len
  · have b1 : decide ((1000 : Int) < (len : Int)) = true := by simp; omega
    have b1' : decide (1000 < len) = true := by simp; omega
    clear hl
    go_enter Try.func12, Try.ntmps12
    go_wp2_with fail
    go_ret
    exact ⟨true, rfl, fun h => (by cases h), Kept.refl _ _⟩
  · have b1 : decide ((1000 : Int) < (len : Int)) = false := by simp; omega
    have b1' : decide (1000 < len) = false := by simp; omega
    have HL : Hid (len ≤ 1000) := hid (by omega)
    clear hl
    go_enter Try.func12, Try.ntmps12
    go_wp2_with fail
    go_loopg [3] len (fun qq z wr => ∃ i : Nat, z = .int .i64 (i : Nat) ∧ i ≤ len ∧ len - i ≤ qq ∧ Hid (Same w wr ∧ ∀ j, j < i → OpSm (O j)))
    case atStart => exact ⟨0, rfl, by omega, by omega, hid ⟨Kept.refl _ _, fun j hj => by omega⟩⟩
    case round =>
      obtain ⟨i, rfl, hi, hiq, HI⟩ := hrel
      by_cases hlt : i < len
      · have c1 : decide (i < len) = true := by simp; omega
        obtain ⟨_, b, o, ha, _, hat⟩ := HO.out i hlt
        subst ha
        have hat := hat.kept HI.out.1 (fun f => f)
        obtain ⟨x, hx⟩ : ∃ x, x = O i := ⟨_, rfl⟩
        rw [← hx] at hat
        have HX : Hid (x = O i ∧ i < len) := hid ⟨hx, hlt⟩
        obtain ⟨k, ta, tb, da, dn, dc, bs, n, ca, cn, cc, cs⟩ := x
        obtain ⟨k0, k1, k2, k3, k4, k5⟩ := hat
        dsimp only at k0 k1 k2 k3 k4 k5
        have i1 : (0 : Int) ≤ (i : Int) := by omega
        have i2 : (i : Int) < (len : Int) := by omega
        have hiw : IntKind.i64.wrap ((i : Int) + 1) = ((i + 1 : Nat) : Int) := by rw [IntKind.wrap_i64]; have := HL.out; omega
        obtain ⟨wA, hwA⟩ : ∃ W, W = wr.alloc (.cells #[.int .i64 k, .string ta, .string tb, .slice da dn dc, .int .i64 n, .slice ca cn cc] 36) := ⟨_, rfl⟩
        obtain ⟨xb, hxb⟩ : ∃ b, b = wr.heap.size := ⟨_, rfl⟩
        have BA : Blk wA xb #[.int .i64 k, .string ta, .string tb, .slice da dn dc, .int .i64 n, .slice ca cn cc] 36 := by rw [hwA, hxb]; exact Blk.new wr _ _
        have q1 : wA.cell? ⟨xb, 1, none⟩ = some (.string ta) := BA.cell 1
        have q2 : wA.cell? ⟨xb, 2, none⟩ = some (.string tb) := BA.cell 2
        have q3 : wA.cell? ⟨xb, 3, none⟩ = some (.slice da dn dc) := BA.cell 3
        have q5 : wA.cell? ⟨xb, 5, none⟩ = some (.slice ca cn cc) := BA.cell 5
        have HKA : Hid (Same w wA) := hid (Same.trans HI.out.1 (by rw [hwA]; exact (Kept.refl _ wr).alloc _))
        clear BA hx hlt
        go_upto_region 7 with fail
        rw [← hwA, ← hxb]
        clear hwA hxb k0 k1 k2 k3 k4 k5
        by_cases g1 : 65536 < dn
        · have e1 : decide ((65536 : Int) < (dn : Int)) = true := by simp; omega
          have e1' : decide (65536 < dn) = true := by simp; omega
          clear g1
          go_wp2_with fail
          go_ret
          exact ⟨true, rfl, fun h => (by cases h), HKA.out⟩
        · have e1 : decide ((65536 : Int) < (dn : Int)) = false := by simp; omega
          have e1' : decide (65536 < dn) = false := by simp; omega
          have G1 := hid g1
          clear g1
          by_cases g2 : 1000 < cn
          · have e2 : decide ((1000 : Int) < (cn : Int)) = true := by simp; omega
            have e2' : decide (1000 < cn) = true := by simp; omega
            clear g2
            go_wp2_with fail
            go_ret
            exact ⟨true, rfl, fun h => (by cases h), HKA.out⟩
          · have e2 : decide ((1000 : Int) < (cn : Int)) = false := by simp; omega
            have e2' : decide (1000 < cn) = false := by simp; omega
            have G2 := hid g2
            clear g2
            by_cases g3 : 65536 < ta.size
            · have e3 : decide ((65536 : Int) < (ta.size : Int)) = true := by simp; omega
              have e3' : decide (65536 < ta.size) = true := by simp; omega
              clear g3
              go_wp2_with fail
              go_ret
              exact ⟨true, rfl, fun h => (by cases h), HKA.out⟩
            · have e3 : decide ((65536 : Int) < (ta.size : Int)) = false := by simp; omega
              have e3' : decide (65536 < ta.size) = false := by simp; omega
              have G3 := hid g3
              clear g3
              by_cases g4 : 65536 < tb.size
              · have e4 : decide ((65536 : Int) < (tb.size : Int)) = true := by simp; omega
                have e4' : decide (65536 < tb.size) = true := by simp; omega
                clear g4
                go_wp2_with fail
                go_ret
                exact ⟨true, rfl, fun h => (by cases h), HKA.out⟩
              · have e4 : decide ((65536 : Int) < (tb.size : Int)) = false := by simp; omega
                have e4' : decide (65536 < tb.size) = false := by simp; omega
                have HS : Hid (∀ j, j < i + 1 → OpSm (O j)) := hid (fun j hj => by
                  by_cases e : j = i
                  · rw [e, ← HX.out.1]
                    have h1 := G1.out
                    have h2 := G2.out
                    have h3 := G3.out
                    exact ⟨by show dn ≤ _; omega, by show cn ≤ _; omega, by show ta.size ≤ _; omega, by show tb.size ≤ _; omega⟩
                  · exact HI.out.2 j (by omega))
                clear g4
                go_wp2_with fail
                go_roundg (gk - 1)
                case measure => have := HX.out; omega
                case rel => exact ⟨i + 1, by go_num, by have := HX.out; omega, by have := HX.out; omega, hid ⟨HKA.out, HS.out⟩⟩
      · have c1 : decide (i < len) = false := by simp; omega
        have hE : i = len := by omega
        subst hE
        go_wp2_with fail
        go_ret
        exact ⟨false, rfl, fun _ => ⟨HL.out, HI.out.2⟩, HI.out.1⟩

end Go.Proofs.Ytkceahdpcdfckaa

/-
  Layer 9's law: play.
-/
namespace Go.Proofs.Ytkceahdpcdfckaa
open Go.RowKit Go.Maps

/-- What is left of a disk by a call. -/
def orS (s : Ds) : Except Nat Ds → Ds
  | .ok s' => s'
  | .error _ => s

/-- A disk's state behind a call of a script. -/
def opS (s : Ds) (o : O9) (f : Nat) : Ds :=
  if o.k = 1 then orS s (creS s o.a f) else if o.k = 2 then orS s (appS s o.a o.bs) else if o.k = 3 then orS s (synS s o.a) else if o.k = 4 then orS s (renS s o.a o.b) else if o.k = 5 then orS s (remS s o.a) else if o.k = 6 then orS s (sydS s) else if o.k = 8 then orS s (stpS s o.n) else if o.k = 9 then craS s o.cs else s

/-- Calls one behind the other; a new file is none of those that there are. -/
inductive PlyS : Ds → List O9 → Ds → Prop
  | nil (s : Ds) : PlyS s [] s
  | snoc {s s1 : Ds} {os : List O9} (o : O9) (f : Nat) : PlyS s os s1 → ¬ refd s1 f → PlyS s (os ++ [o]) (opS s1 o f)

theorem StpX.or {N : Nat} {w : World} {d : Nat} {s : Ds} {ρ : Rho} {r : Except Nat Ds} {e : Ending} {w' : World} (h : StpX N w d ρ r e w') (hd : DkX N w d s ρ) :
    ∃ (v : Nat) (ρ' : Rho), e = .returned (.int .i64 (v : Nat)) ∧ DkX N w' d (orS s r) ρ' ∧ MoR w ρ ρ' ∧ Kept (fun k => ρ k ≠ 0) w w' := by
  cases r with
  | error k =>
    obtain ⟨rfl, h2⟩ := h.1 k rfl
    exact ⟨k, ρ, rfl, hd.same h2, MoR.refl _ _, h2.mono (fun _ _ f => f.elim)⟩
  | ok s' =>
    obtain ⟨rfl, ρ', h2, h3, h4⟩ := h.2 s' rfl
    exact ⟨0, ρ', rfl, h2, h3, h4⟩

theorem DkX.refd {N : Nat} {w : World} {d : Nat} {s : Ds} {ρ : Rho} (h : DkX N w d s ρ) {f : Nat} (hf : Go.Proofs.Ytkceahdpcdfckaa.refd s f) : ρ f = 5 := by
  obtain ⟨nb, sb, cv, h⟩ := h
  rcases hf with ⟨p, h1, rfl⟩ | ⟨p, h1, rfl⟩ | ⟨c, h1, rfl⟩
  · exact h.nmf p h1
  · exact h.sff p h1
  · exact h.chf c h1

theorem DkX.fresh {N : Nat} {w : World} {d : Nat} {s : Ds} {ρ : Rho} (h : DkX N w d s ρ) : ¬ Go.Proofs.Ytkceahdpcdfckaa.refd s w.heap.size := fun hf => by
  have := (h.new _ (by rw [h.refd hf]; decide)).2
  omega

theorem steps_step (s : Ds) : (stepS s).steps = s.steps + 1 := rfl

theorem opS_steps (s : Ds) (o : O9) (f : Nat) : (opS s o f).steps ≤ s.steps + 1 := by
  have hor : ∀ r : Except Nat Ds, (∀ s', r = .ok s' → s'.steps ≤ s.steps + 1) → (orS s r).steps ≤ s.steps + 1 := fun r h => by
    cases r with
    | error k => exact Nat.le_succ _
    | ok s' => exact h s' rfl
  unfold opS
  split
  · refine hor _ (fun s' e => ?_)
    unfold creS at e
    repeat' split at e
    all_goals cases e
    exact Nat.le_refl _
  split
  · refine hor _ (fun s' e => ?_)
    unfold appS at e
    repeat' split at e
    all_goals cases e
    exact Nat.le_refl _
  split
  · refine hor _ (fun s' e => ?_)
    unfold synS at e
    repeat' split at e
    all_goals cases e
    exact Nat.le_refl _
  split
  · refine hor _ (fun s' e => ?_)
    unfold renS at e
    repeat' split at e
    all_goals cases e
    exact Nat.le_refl _
  split
  · refine hor _ (fun s' e => ?_)
    unfold remS at e
    repeat' split at e
    all_goals cases e
    exact Nat.le_refl _
  split
  · refine hor _ (fun s' e => ?_)
    unfold sydS at e
    repeat' split at e
    all_goals cases e
    exact Nat.le_refl _
  split
  · refine hor _ (fun s' e => ?_)
    unfold stpS at e
    repeat' split at e
    all_goals cases e
    exact Nat.le_succ _
  split
  · exact Nat.le_succ _
  · exact Nat.le_succ _

/-- What play leaves. -/
def PlyA (N : Nat) (w : World) (d : Nat) (s : Ds) (ρ : Rho) (os : List O9) (e : Ending) (w' : World) : Prop :=
  e = .returned (.tuple #[]) ∧ ∃ s' ρ', DkX N w' d s' ρ' ∧ PlyS s os s' ∧ s'.steps ≤ s.steps + os.length ∧ MoR w ρ ρ' ∧ Kept (fun k => ρ k ≠ 0) w w'

set_option maxRecDepth 100000 in
set_option maxHeartbeats 2000000 in
theorem dplay_any {N : Nat} {w : World} {d : Nat} {s : Ds} {ρ : Rho} (h : DkX N w d s ρ) (hst : s.steps ≤ 900000) (hN : N ≤ w.heap.size) (I : Nat → Prop) (a : Option Addr) (len cap : Nat) (O : Nat → O9) (ho : Ops9 w I a len O) (hI : ∀ k, I k → ρ k = 0) (hsm : ∀ j, j < len → OpSm (O j)) (hl : len ≤ 1000) :
    Calls Try.prog 16 #[.pointer (some ⟨d, 0, none⟩), .slice a len cap] w fun e w' => PlyA N w d s ρ ((List.range len).map O) e w' := by
  have HO : Hid (Ops9 w (fun k => I k ∧ k < w.heap.size) a len O) := hid (fun j hj => by
    obtain ⟨h1, b, o, h2, h3, h4⟩ := ho j hj
    refine ⟨⟨?_, h1.len, h1.byte, h1.nil, h1.ints.low, h1.clen, h1.rng, h1.num⟩, b, o, h2, ⟨h3, World.block_lt_of_cell? w _ h4.1⟩, h4⟩
    obtain ⟨ao, cp, e, hc⟩ := h1.src
    refine ⟨ao, cp, e, fun hne => ?_⟩
    obtain ⟨b, o, h2, h3, h4⟩ := hc hne
    refine ⟨b, o, h2, ⟨h3, ?_⟩, h4⟩
    exact World.block_lt_of_cell? w _ (h4 0 (List.length_pos_iff.2 hne)))
  have HD : Hid (DkX N w d s ρ) := h
  have HQ : Hid (s.steps ≤ 900000 ∧ N ≤ w.heap.size ∧ (∀ k, I k → ρ k = 0) ∧ (∀ j, j < len → OpSm (O j)) ∧ len ≤ 1000) := hid ⟨hst, hN, hI, hsm, hl⟩
  clear h hst hN ho hI hsm hl
  go_enter Try.func16, Try.ntmps16
  go_wp2_with fail
  go_loopg [4] len (fun qq z wr => ∃ (i : Nat) (s1 : Ds) (ρ1 : Rho), z = .int .i64 (i : Nat) ∧ i ≤ len ∧ len - i ≤ qq ∧ Hid (DkX N wr d s1 ρ1 ∧ PlyS s ((List.range i).map O) s1 ∧ s1.steps ≤ s.steps + i ∧ MoR w ρ ρ1 ∧ Kept (fun k => ρ k ≠ 0) w wr))
  case atStart => exact ⟨0, s, ρ, rfl, by omega, by omega, hid ⟨HD.out, PlyS.nil s, Nat.le_refl _, MoR.refl _ _, Kept.refl _ _⟩⟩
  case round =>
    obtain ⟨i, s1, ρ1, rfl, hi, hiq, HI⟩ := hrel
    by_cases hlt : i < len
    · have c1 : decide (i < len) = true := by simp; omega
      have hq := HQ.out
      obtain ⟨hok, b, o, ha, hib, hat⟩ := HO.out i hlt
      subst ha
      have hat := hat.kept HI.out.2.2.2.2 (fun f => f (hq.2.2.1 b hib.1))
      obtain ⟨x, hx⟩ : ∃ x, x = O i := ⟨_, rfl⟩
      have hsm := hq.2.2.2.1 i hlt
      rw [← hx] at hat hok hsm
      have i1 : (0 : Int) ≤ (i : Int) := by omega
      have i2 : (i : Int) < (len : Int) := by omega
      have hiw : IntKind.i64.wrap ((i : Int) + 1) = ((i + 1 : Nat) : Int) := by rw [IntKind.wrap_i64]; omega
      obtain ⟨k0, k1, k2, k3, k4, k5⟩ := hat
      obtain ⟨wA, hwA⟩ : ∃ W, W = wr.alloc (.cells #[.int .i64 x.k, .string x.a, .string x.b, .slice x.da x.dn x.dc, .int .i64 x.n, .slice x.ca x.cn x.cc] 36) := ⟨_, rfl⟩
      obtain ⟨xb, hxb⟩ : ∃ b, b = wr.heap.size := ⟨_, rfl⟩
      have BA : Blk wA xb #[.int .i64 x.k, .string x.a, .string x.b, .slice x.da x.dn x.dc, .int .i64 x.n, .slice x.ca x.cn x.cc] 36 := by rw [hwA, hxb]; exact Blk.new wr _ _
      have q0 : wA.cell? ⟨xb, 0, none⟩ = some (.int .i64 x.k) := BA.cell 0
      have q1 : wA.cell? ⟨xb, 1, none⟩ = some (.string x.a) := BA.cell 1
      have q2 : wA.cell? ⟨xb, 2, none⟩ = some (.string x.b) := BA.cell 2
      have q3 : wA.cell? ⟨xb, 3, none⟩ = some (.slice x.da x.dn x.dc) := BA.cell 3
      have q4 : wA.cell? ⟨xb, 4, none⟩ = some (.int .i64 x.n) := BA.cell 4
      have q5 : wA.cell? ⟨xb, 5, none⟩ = some (.slice x.ca x.cn x.cc) := BA.cell 5
      have kA : Same wr wA := by rw [hwA]; exact (Kept.refl _ wr).alloc _
      have DA : DkX N wA d s1 ρ1 := HI.out.1.same kA
      have hzero : ∀ k, (I k ∧ k < w.heap.size) → ρ1 k = 0 := fun k hk => by
        rcases HI.out.2.2.2.1 k with h9 | h9 | h9
        · exact h9
        · rw [h9]; exact hq.2.2.1 k hk.1
        · omega
      have hokA : OpOk wA (fun k => I k ∧ k < w.heap.size) x := (hok.kept HI.out.2.2.2.2 (fun k hk _ f => f (hq.2.2.1 k hk.1))).kept kA (fun _ _ _ f => f)
      have hNA : N ≤ wA.heap.size := Nat.le_trans hq.2.1 (Nat.le_trans HI.out.2.2.2.2.size kA.size)
      have hs1 : s1.steps ≤ 1000000 := by have := HI.out.2.2.1; omega
      have HX : Hid (x = O i ∧ i < len) := hid ⟨hx, hlt⟩
      have HDA : Hid (DkX N wA d s1 ρ1) := DA
      have HKA : Hid (Same wr wA) := kA
      have hta : x.a.size ≤ 100000 := Nat.le_trans hsm.2.2.1 (by decide)
      have htb : x.b.size ≤ 100000 := Nat.le_trans hsm.2.2.2 (by decide)
      have HCre := xcreate DA hs1 hNA x.a hta
      have HApp := xappend DA hs1 x.a hta _ _ x.bs hokA.src hokA.nil (by rw [hokA.len]; exact Nat.le_trans hsm.1 (by decide)) (fun k hk _ => hzero k hk) hokA.byte hNA
      have HSyn := xsync DA hs1 x.a hta
      have HRen := xrename DA hs1 hNA x.a x.b hta htb
      have HRem := xremove DA hs1 hNA x.a hta
      have HSyd := xsyncdir DA hs1 hNA
      have HStp := xstop DA x.n hokA.num.2
      have HCra := xcrash DA hs1 hNA _ _ x.cs hokA.ints hokA.rng (fun k hk _ => hzero k hk)
      have HFR : Hid (∀ f s2 ρ2 w2, ¬ refd s1 f → s2 = opS s1 x f → DkX N w2 d s2 ρ2 → MoR wA ρ1 ρ2 → Kept (fun k => ρ1 k ≠ 0) wA w2 → DkX N w2 d s2 ρ2 ∧ PlyS s ((List.range (i + 1)).map O) s2 ∧ s2.steps ≤ s.steps + (i + 1) ∧ MoR w ρ ρ2 ∧ Kept (fun k => ρ k ≠ 0) w w2) := hid (fun f s2 ρ2 w2 hf e hd hm hk => by
        have hi := HI.out
        refine ⟨hd, ?_, ?_, ?_, ?_⟩
        · rw [List.range_succ, List.map_append, e, hx]
          exact PlyS.snoc (O i) f hi.2.1 hf
        · rw [e]
          have h1 := opS_steps s1 x f
          have h2 := hi.2.2.1
          omega
        · have hm2 : MoR wr ρ1 ρ2 := fun k => by
            rcases hm k with h9 | h9 | h9
            · exact .inl h9
            · exact .inr (.inl h9)
            · exact .inr (.inr (Nat.le_trans kA.size h9))
          exact hi.2.2.2.1.trans hm2 hi.2.2.2.2.size
        · refine Kept.trans hi.2.2.2.2 (Kept.trans kA hk (H := fun k => ρ1 k ≠ 0) (fun _ _ f => f.elim) (fun _ _ e => e)) (fun _ _ e => e) (fun k hk2 h0 => ?_)
          rcases hi.2.2.2.1 k with h9 | h9 | h9
          · exact absurd h9 h0
          · rw [← h9]; exact h0
          · omega)
      clear hat hok hsm hq hib hx hlt kA DA hzero hokA hNA hs1 BA
      obtain ⟨k, ta, tb, da, dn, dc, bs, n, ca, cn, cc, cs⟩ := x
      dsimp only at k0 k1 k2 k3 k4 k5 q0 q1 q2 q3 q4 q5 hta htb HCre HApp HSyn HRen HRem HSyd HStp HCra
      go_upto_region 5 with fail
      rw [← hwA, ← hxb]
      clear hwA hxb k0 k1 k2 k3 k4 k5
      by_cases e1 : k = 1
      · subst e1
        clear HApp HSyn HRen HRem HSyd HStp HCra
        go_wp2_with fail
        refine HCre.mono ?_
        rintro e w2 hst2
        obtain ⟨v, ρ2, rfl, hd2, hm2, hk2⟩ := hst2.or HDA.out
        have HF := hid (HFR.out wA.heap.size _ ρ2 w2 HDA.out.fresh rfl (by exact hd2) hm2 hk2)
        clear hst2 hd2 hm2 hk2 HCre
        go_wp2_with fail
        go_roundg (gk - 1)
        case measure => have := HX.out; omega
        case rel => exact ⟨i + 1, _, ρ2, by go_num, by have := HX.out; omega, by have := HX.out; omega, HF⟩
      have f1 : (k == 1) = false := by simp [e1]
      by_cases e2 : k = 2
      · subst e2
        clear HCre HSyn HRen HRem HSyd HStp HCra
        go_wp2_with fail
        refine HApp.mono ?_
        rintro e w2 hst2
        obtain ⟨v, ρ2, rfl, hd2, hm2, hk2⟩ := hst2.or HDA.out
        have HF := hid (HFR.out wA.heap.size _ ρ2 w2 HDA.out.fresh rfl (by exact hd2) hm2 hk2)
        clear hst2 hd2 hm2 hk2 HApp
        go_wp2_with fail
        go_roundg (gk - 1)
        case measure => have := HX.out; omega
        case rel => exact ⟨i + 1, _, ρ2, by go_num, by have := HX.out; omega, by have := HX.out; omega, HF⟩
      have f2 : (k == 2) = false := by simp [e2]
      by_cases e3 : k = 3
      · subst e3
        clear HCre HApp HRen HRem HSyd HStp HCra
        go_wp2_with fail
        refine HSyn.mono ?_
        rintro e w2 hst2
        obtain ⟨v, ρ2, rfl, hd2, hm2, hk2⟩ := hst2.or HDA.out
        have HF := hid (HFR.out wA.heap.size _ ρ2 w2 HDA.out.fresh rfl (by exact hd2) hm2 hk2)
        clear hst2 hd2 hm2 hk2 HSyn
        go_wp2_with fail
        go_roundg (gk - 1)
        case measure => have := HX.out; omega
        case rel => exact ⟨i + 1, _, ρ2, by go_num, by have := HX.out; omega, by have := HX.out; omega, HF⟩
      have f3 : (k == 3) = false := by simp [e3]
      by_cases e4 : k = 4
      · subst e4
        clear HCre HApp HSyn HRem HSyd HStp HCra
        go_wp2_with fail
        refine HRen.mono ?_
        rintro e w2 hst2
        obtain ⟨v, ρ2, rfl, hd2, hm2, hk2⟩ := hst2.or HDA.out
        have HF := hid (HFR.out wA.heap.size _ ρ2 w2 HDA.out.fresh rfl (by exact hd2) hm2 hk2)
        clear hst2 hd2 hm2 hk2 HRen
        go_wp2_with fail
        go_roundg (gk - 1)
        case measure => have := HX.out; omega
        case rel => exact ⟨i + 1, _, ρ2, by go_num, by have := HX.out; omega, by have := HX.out; omega, HF⟩
      have f4 : (k == 4) = false := by simp [e4]
      by_cases e5 : k = 5
      · subst e5
        clear HCre HApp HSyn HRen HSyd HStp HCra
        go_wp2_with fail
        refine HRem.mono ?_
        rintro e w2 hst2
        obtain ⟨v, ρ2, rfl, hd2, hm2, hk2⟩ := hst2.or HDA.out
        have HF := hid (HFR.out wA.heap.size _ ρ2 w2 HDA.out.fresh rfl (by exact hd2) hm2 hk2)
        clear hst2 hd2 hm2 hk2 HRem
        go_wp2_with fail
        go_roundg (gk - 1)
        case measure => have := HX.out; omega
        case rel => exact ⟨i + 1, _, ρ2, by go_num, by have := HX.out; omega, by have := HX.out; omega, HF⟩
      have f5 : (k == 5) = false := by simp [e5]
      by_cases e6 : k = 6
      · subst e6
        clear HCre HApp HSyn HRen HRem HStp HCra
        go_wp2_with fail
        refine HSyd.mono ?_
        rintro e w2 hst2
        obtain ⟨v, ρ2, rfl, hd2, hm2, hk2⟩ := hst2.or HDA.out
        have HF := hid (HFR.out wA.heap.size _ ρ2 w2 HDA.out.fresh rfl (by exact hd2) hm2 hk2)
        clear hst2 hd2 hm2 hk2 HSyd
        go_wp2_with fail
        go_roundg (gk - 1)
        case measure => have := HX.out; omega
        case rel => exact ⟨i + 1, _, ρ2, by go_num, by have := HX.out; omega, by have := HX.out; omega, HF⟩
      have f6 : (k == 6) = false := by simp [e6]
      by_cases e8 : k = 8
      · subst e8
        clear HCre HApp HSyn HRen HRem HSyd HCra
        go_wp2_with fail
        refine HStp.mono ?_
        rintro e w2 hst2
        obtain ⟨v, ρ2, rfl, hd2, hm2, hk2⟩ := hst2.or HDA.out
        have HF := hid (HFR.out wA.heap.size _ ρ2 w2 HDA.out.fresh rfl (by exact hd2) hm2 hk2)
        clear hst2 hd2 hm2 hk2 HStp
        go_wp2_with fail
        go_roundg (gk - 1)
        case measure => have := HX.out; omega
        case rel => exact ⟨i + 1, _, ρ2, by go_num, by have := HX.out; omega, by have := HX.out; omega, HF⟩
      have f8 : (k == 8) = false := by simp [e8]
      by_cases e9 : k = 9
      · subst e9
        clear HCre HApp HSyn HRen HRem HSyd HStp
        go_wp2_with fail
        refine HCra.mono ?_
        rintro e w2 ⟨_, hok2⟩
        obtain ⟨rfl, ρ2, hd2, hm2, hk2⟩ := hok2 _ rfl
        have HF := hid (HFR.out wA.heap.size _ ρ2 w2 HDA.out.fresh rfl (by exact hd2) hm2 hk2)
        clear hok2 hd2 hm2 hk2 HCra
        go_wp2_with fail
        go_roundg (gk - 1)
        case measure => have := HX.out; omega
        case rel => exact ⟨i + 1, _, ρ2, by go_num, by have := HX.out; omega, by have := HX.out; omega, HF⟩
      have f9 : (k == 9) = false := by simp [e9]
      clear HCre HApp HSyn HRen HRem HSyd HStp HCra
      have HF := hid (HFR.out wA.heap.size _ ρ1 wA HDA.out.fresh rfl (by
        show DkX N wA d (opS s1 ⟨k, ta, tb, da, dn, dc, bs, n, ca, cn, cc, cs⟩ wA.heap.size) ρ1
        unfold opS
        dsimp only
        rw [if_neg e1, if_neg e2, if_neg e3, if_neg e4, if_neg e5, if_neg e6, if_neg e8, if_neg e9]
        exact HDA.out) (MoR.refl _ _) (Kept.refl _ _))
      clear e1 e2 e3 e4 e5 e6 e8 e9
      go_wp2_with fail
      go_roundg (gk - 1)
      case measure => have := HX.out; omega
      case rel => exact ⟨i + 1, _, ρ1, by go_num, by have := HX.out; omega, by have := HX.out; omega, HF⟩
    · have c1 : decide (i < len) = false := by simp; omega
      have hE : i = len := by omega
      subst hE
      go_wp2_with fail
      go_end0
      exact ⟨rfl, s1, ρ1, HI.out.1, HI.out.2.1, by rw [List.length_map, List.length_range]; exact HI.out.2.2.1, HI.out.2.2.2⟩

end Go.Proofs.Ytkceahdpcdfckaa

/-
  Layer 9: two disks that tell the same.
-/
namespace Go.Proofs.Ytkceahdpcdfckaa
open Go.RowKit Go.Maps

/-- A file that a name has, had when it was safe, or may get by a change. -/
def lvd (s : Ds) (f : Nat) : Prop := (∃ p ∈ s.names, p.2 = f) ∨ (∃ p ∈ s.safe, p.2 = f) ∨ ∃ c ∈ s.chg, c.dst.size ≠ 0 ∧ c.f = f

theorem lvd.refd {s : Ds} {f : Nat} (h : lvd s f) : refd s f := by
  rcases h with h | h | ⟨c, h1, _, h2⟩
  · exact .inl h
  · exact .inr (.inl h)
  · exact .inr (.inr ⟨c, h1, h2⟩)

/-- What counts of a change. -/
def nrm (φ : Nat → Nat) (c : Chg) : ByteArray × ByteArray × Option Nat := (c.src, c.dst, if c.dst.size = 0 then none else some (φ c.f))

/-- Two disks whose files answer one another. -/
structure SimD (φ : Nat → Nat) (s r : Ds) : Prop where
  room : s.room = r.room
  steps : s.steps = r.steps
  names : s.names = mapF φ r.names
  safe : s.safe = mapF φ r.safe
  chg : s.chg.map (nrm id) = r.chg.map (nrm φ)
  fl : ∀ k, lvd r k → s.fl (φ k) = r.fl k
  inj : ∀ j k, lvd r j → lvd r k → φ j = φ k → j = k

theorem getN_mapF (φ : Nat → Nat) (t : ByteArray) (L : Nms) : getN t (mapF φ L) = (getN t L).map φ := by
  unfold getN mapF
  rw [List.find?_map]
  cases h : L.find? (fun p => decide (p.1 = t)) with
  | none =>
    have : L.find? ((fun p : ByteArray × Nat => decide (p.1 = t)) ∘ fun p => (p.1, φ p.2)) = none := h
    rw [this]; rfl
  | some p =>
    have : L.find? ((fun p : ByteArray × Nat => decide (p.1 = t)) ∘ fun p => (p.1, φ p.2)) = some p := h
    rw [this]; rfl

theorem delN_mapF (φ : Nat → Nat) (t : ByteArray) (L : Nms) : delN t (mapF φ L) = mapF φ (delN t L) := by
  unfold delN mapF
  rw [List.filter_map]
  rfl

theorem insN_mapF (φ : Nat → Nat) (t : ByteArray) (f : Nat) (L : Nms) : insN (t, φ f) (mapF φ L) = mapF φ (insN (t, f) L) := by
  induction L with
  | nil => rfl
  | cons p L ih =>
    show insN (t, φ f) ((p.1, φ p.2) :: mapF φ L) = mapF φ (insN (t, f) (p :: L))
    rw [insN, insN]
    split
    · rfl
    · rw [ih]; rfl

theorem putN_mapF (φ : Nat → Nat) (t : ByteArray) (f : Nat) (L : Nms) : putN t (φ f) (mapF φ L) = mapF φ (putN t f L) := by
  unfold putN
  rw [delN_mapF, insN_mapF]

theorem appN_mapF {φ : Nat → Nat} {c c' : Chg} (h : nrm id c = nrm φ c') (L : Nms) : appN c (mapF φ L) = mapF φ (appN c' L) := by
  unfold nrm at h
  simp only [Prod.mk.injEq] at h
  obtain ⟨h1, h2, h3⟩ := h
  unfold appN
  rw [h1, h2]
  by_cases h0 : c'.dst.size = 0
  · rw [if_pos h0, if_pos h0, delN_mapF]
  · rw [if_neg h0, if_neg h0]
    rw [h2, if_neg h0, if_neg h0] at h3
    simp only [Option.some.injEq, id] at h3
    rw [h3, delN_mapF, putN_mapF]

theorem mapF_len (φ : Nat → Nat) (L : Nms) : (mapF φ L).length = L.length := List.length_map _
theorem mapF_keys (φ : Nat → Nat) (L : Nms) : (mapF φ L).map (·.1) = L.map (·.1) := by unfold mapF; rw [List.map_map]; rfl
theorem mapF_congr {φ ψ : Nat → Nat} {L : Nms} (h : ∀ p ∈ L, φ p.2 = ψ p.2) : mapF φ L = mapF ψ L := List.map_congr_left (fun p hp => by rw [h p hp])

theorem usedN_congr {φ : Nat → Nat} {s r : Ds} (h : s.names = mapF φ r.names) (hf : ∀ p ∈ r.names, s.fl (φ p.2) = r.fl p.2) : usedN s = usedN r := by
  unfold usedN
  rw [h]
  unfold mapF
  rw [List.map_map]
  congr 1
  refine List.map_congr_left (fun p hp => ?_)
  show (s.fl (φ p.2)).bs.length = (r.fl p.2).bs.length
  rw [hf p hp]

section
variable {φ : Nat → Nat} {s r : Ds}

theorem SimD.used (h : SimD φ s r) : usedN s = usedN r := usedN_congr h.names (fun p hp => h.fl _ (.inl ⟨p, hp, rfl⟩))

theorem SimD.chgLen (h : SimD φ s r) : s.chg.length = r.chg.length := by
  have := congrArg List.length h.chg
  rwa [List.length_map, List.length_map] at this

theorem SimD.nam (h : SimD φ s r) : s.names.map (·.1) = r.names.map (·.1) := by rw [h.names, mapF_keys]

/-- What two calls tell. -/
def SimR (φ : Nat → Nat) (s r : Ds) (x y : Except Nat Ds) : Prop :=
  (∃ k, x = .error k ∧ y = .error k) ∨ ∃ a b, x = .ok a ∧ y = .ok b ∧ SimD φ a b ∧ a.left = (stepS s).left ∧ b.left = (stepS r).left

theorem SimD.chgs (h : SimD φ s r) {c c' : Chg} (hc : nrm id c = nrm φ c') (hl : c'.dst.size ≠ 0 → lvd r c'.f) : SimD φ (chgS s c) (chgS r c') := by
  have hlv : ∀ k, lvd (chgS r c') k → lvd r k := fun k hk => by
    rcases hk with ⟨p, h1, h2⟩ | ⟨p, h1, h2⟩ | ⟨x, h1, h2, h3⟩
    · have h1 : p ∈ appN c' r.names := h1
      by_cases h0 : c'.dst.size = 0
      · unfold appN at h1
        rw [if_pos h0] at h1
        exact .inl ⟨p, delN_mem h1, h2⟩
      · rcases appN_mem h1 with h4 | h4
        · rw [← h2, h4]; exact hl h0
        · exact .inl ⟨p, h4, h2⟩
    · exact .inr (.inl ⟨p, h1, h2⟩)
    · have h1 : x ∈ r.chg ++ [c'] := h1
      rcases List.mem_append.1 h1 with h4 | h4
      · exact .inr (.inr ⟨x, h4, h2, h3⟩)
      · rw [List.mem_singleton.1 h4] at h2 h3
        rw [← h3]; exact hl h2
  refine ⟨h.room, by show s.steps + 1 = r.steps + 1; rw [h.steps], ?_, h.safe, ?_, fun k hk => h.fl k (hlv k hk), fun j k hj hk => h.inj j k (hlv j hj) (hlv k hk)⟩
  · show appN c s.names = mapF φ (appN c' r.names)
    rw [h.names, appN_mapF hc]
  · show (s.chg ++ [c]).map (nrm id) = (r.chg ++ [c']).map (nrm φ)
    rw [List.map_append, List.map_append, h.chg, List.map_singleton, List.map_singleton, hc]

theorem SimD.ups (h : SimD φ s r) {k : Nat} (hk : lvd r k) (x : Fl) : SimD φ (stepS { s with fl := updF s.fl (φ k) x }) (stepS { r with fl := updF r.fl k x }) := by
  refine ⟨h.room, by show s.steps + 1 = r.steps + 1; rw [h.steps], h.names, h.safe, h.chg, fun j hj => ?_, h.inj⟩
  show updF s.fl (φ k) x (φ j) = updF r.fl k x j
  unfold updF
  by_cases e : j = k
  · rw [if_pos e, e, if_pos rfl]
  · rw [if_neg e, if_neg (fun e2 => e (h.inj j k hj hk e2))]
    exact h.fl j hj

theorem SimD.get (h : SimD φ s r) (t : ByteArray) : getN t s.names = (getN t r.names).map φ := by rw [h.names, getN_mapF]

theorem SimD.app (h : SimD φ s r) (hl : s.left = 0 ↔ r.left = 0) (t : ByteArray) (bs : List Nat) : SimR φ s r (appS s t bs) (appS r t bs) := by
  unfold appS
  by_cases h0 : r.left = 0
  · rw [if_pos h0, if_pos (hl.2 h0)]; exact .inl ⟨94, rfl, rfl⟩
  · rw [if_neg h0, if_neg (fun e => h0 (hl.1 e)), h.get]
    cases hg : getN t r.names with
    | none => exact .inl ⟨92, rfl, rfl⟩
    | some k =>
      have hk : lvd r k := .inl ⟨_, getN_mem hg, rfl⟩
      dsimp only [Option.map_some]
      by_cases hc : r.room < usedN r + bs.length
      · rw [if_pos hc, if_pos (by rw [h.used, h.room]; exact hc)]
        exact .inl ⟨93, rfl, rfl⟩
      · rw [if_neg hc, if_neg (by rw [h.used, h.room]; exact hc)]
        refine .inr ⟨_, _, rfl, rfl, ?_, rfl, rfl⟩
        rw [h.fl k hk]
        exact h.ups hk ⟨(r.fl k).bs ++ bs, (r.fl k).safe⟩

theorem SimD.syn (h : SimD φ s r) (hl : s.left = 0 ↔ r.left = 0) (t : ByteArray) : SimR φ s r (synS s t) (synS r t) := by
  unfold synS
  by_cases h0 : r.left = 0
  · rw [if_pos h0, if_pos (hl.2 h0)]; exact .inl ⟨94, rfl, rfl⟩
  · rw [if_neg h0, if_neg (fun e => h0 (hl.1 e)), h.get]
    cases hg : getN t r.names with
    | none => exact .inl ⟨92, rfl, rfl⟩
    | some k =>
      have hk : lvd r k := .inl ⟨_, getN_mem hg, rfl⟩
      dsimp only [Option.map_some]
      refine .inr ⟨_, _, rfl, rfl, ?_, rfl, rfl⟩
      rw [h.fl k hk]
      exact h.ups hk ⟨(r.fl k).bs, (r.fl k).bs.length⟩

theorem SimD.ren (h : SimD φ s r) (hl : s.left = 0 ↔ r.left = 0) (t u : ByteArray) : SimR φ s r (renS s t u) (renS r t u) := by
  unfold renS
  by_cases h0 : r.left = 0
  · rw [if_pos h0, if_pos (hl.2 h0)]; exact .inl ⟨94, rfl, rfl⟩
  · rw [if_neg h0, if_neg (fun e => h0 (hl.1 e)), h.get]
    cases hg : getN t r.names with
    | none => exact .inl ⟨92, rfl, rfl⟩
    | some k =>
      have hk : lvd r k := .inl ⟨_, getN_mem hg, rfl⟩
      dsimp only [Option.map_some]
      by_cases hn : nam9 u = true
      · rw [if_pos hn, if_pos hn]
        exact .inr ⟨_, _, rfl, rfl, h.chgs rfl (fun _ => hk), rfl, rfl⟩
      · rw [if_neg hn, if_neg hn]
        exact .inl ⟨90, rfl, rfl⟩

theorem SimD.syd (h : SimD φ s r) (hl : s.left = 0 ↔ r.left = 0) : SimR φ s r (sydS s) (sydS r) := by
  unfold sydS
  by_cases h0 : r.left = 0
  · rw [if_pos h0, if_pos (hl.2 h0)]; exact .inl ⟨94, rfl, rfl⟩
  · rw [if_neg h0, if_neg (fun e => h0 (hl.1 e))]
    have hlv : ∀ k, lvd (stepS { r with safe := r.names, chg := [] }) k → lvd r k := fun k hk => by
      rcases hk with hk | hk | ⟨c, h1, _⟩
      · exact .inl hk
      · exact .inl hk
      · cases h1
    exact .inr ⟨_, _, rfl, rfl, ⟨h.room, by show s.steps + 1 = r.steps + 1; rw [h.steps], h.names, h.names, rfl, fun k hk => h.fl k (hlv k hk), fun j k hj hk => h.inj j k (hlv j hj) (hlv k hk)⟩, rfl, rfl⟩

theorem SimD.rea (h : SimD φ s r) (hl : s.left = 0 ↔ r.left = 0) (t : ByteArray) : reaS s t = reaS r t := by
  unfold reaS
  by_cases h0 : r.left = 0
  · rw [if_pos h0, if_pos (hl.2 h0)]
  · rw [if_neg h0, if_neg (fun e => h0 (hl.1 e)), h.get]
    cases hg : getN t r.names with
    | none => rfl
    | some k =>
      dsimp only [Option.map_some]
      rw [h.fl k (.inl ⟨_, getN_mem hg, rfl⟩)]

/-- The files' numbers with one more. -/
def upP (φ : Nat → Nat) (g f : Nat) : Nat → Nat := fun k => if k = g then f else φ k

theorem SimD.cre (h : SimD φ s r) (hl : s.left = 0 ↔ r.left = 0) (t : ByteArray) (f g : Nat) (hf : ¬ refd s f) (hg : ¬ lvd r g) : (∃ k, creS s t f = .error k ∧ creS r t g = .error k) ∨ ∃ a b, creS s t f = .ok a ∧ creS r t g = .ok b ∧ SimD (upP φ g f) a b ∧ a.left = (stepS s).left ∧ b.left = (stepS r).left := by
  have hne : ∀ k, lvd r k → k ≠ g := fun k hk e => hg (by rw [← e]; exact hk)
  have hup : ∀ k, lvd r k → upP φ g f k = φ k := fun k hk => if_neg (hne k hk)
  have hnm : s.names = mapF (upP φ g f) r.names := by rw [h.names]; exact mapF_congr (fun p hp => (hup _ (.inl ⟨p, hp, rfl⟩)).symm)
  have hsf : s.safe = mapF (upP φ g f) r.safe := by rw [h.safe]; exact mapF_congr (fun p hp => (hup _ (.inr (.inl ⟨p, hp, rfl⟩))).symm)
  have hch : s.chg.map (nrm id) = r.chg.map (nrm (upP φ g f)) := by
    rw [h.chg]
    refine List.map_congr_left (fun c hc => ?_)
    unfold nrm
    by_cases h0 : c.dst.size = 0
    · rw [if_pos h0, if_pos h0]
    · rw [if_neg h0, if_neg h0, hup _ (.inr (.inr ⟨c, hc, h0, rfl⟩))]
  have hrf : ∀ k, lvd r k → φ k ≠ f := fun k hk e => hf (by
    rw [← e]
    rcases hk with ⟨p, h1, h2⟩ | ⟨p, h1, h2⟩ | ⟨c, h1, h2, h3⟩
    · exact .inl ⟨(p.1, φ p.2), by rw [h.names]; exact List.mem_map.2 ⟨p, h1, rfl⟩, by rw [← h2]⟩
    · exact .inr (.inl ⟨(p.1, φ p.2), by rw [h.safe]; exact List.mem_map.2 ⟨p, h1, rfl⟩, by rw [← h2]⟩)
    · have h4 : nrm φ c ∈ s.chg.map (nrm id) := by rw [h.chg]; exact List.mem_map.2 ⟨c, h1, rfl⟩
      obtain ⟨c', h5, h6⟩ := List.mem_map.1 h4
      unfold nrm at h6
      simp only [Prod.mk.injEq] at h6
      obtain ⟨_, h7, h8⟩ := h6
      rw [h7, if_neg h2, if_neg h2] at h8
      simp only [Option.some.injEq, id] at h8
      exact .inr (.inr ⟨c', h5, by rw [h8, h3]⟩))
  unfold creS
  by_cases h0 : r.left = 0
  · rw [if_pos h0, if_pos (hl.2 h0)]; exact .inl ⟨94, rfl, rfl⟩
  · rw [if_neg h0, if_neg (fun e => h0 (hl.1 e))]
    by_cases h1 : nam9 t = false
    · rw [if_pos h1, if_pos h1]; exact .inl ⟨90, rfl, rfl⟩
    · rw [if_neg h1, if_neg h1]
      have hgn : (getN t s.names).isSome = (getN t r.names).isSome := by rw [h.get, Option.isSome_map]
      have hln : s.names.length = r.names.length := by rw [h.names, mapF_len]
      rw [hgn, hln]
      by_cases h2 : (getN t r.names).isSome = true
      · rw [if_pos h2, if_pos h2]; exact .inl ⟨91, rfl, rfl⟩
      · rw [if_neg h2, if_neg h2]
        by_cases h3 : 64 ≤ r.names.length
        · rw [if_pos h3, if_pos h3]; exact .inl ⟨95, rfl, rfl⟩
        · rw [if_neg h3, if_neg h3]
          have hg1 : upP φ g f g = f := if_pos rfl
          have hc : nrm id ⟨⟨#[]⟩, t, f⟩ = nrm (upP φ g f) ⟨⟨#[]⟩, t, g⟩ := by unfold nrm; dsimp only; rw [hg1]; rfl
          have hlv : ∀ k, lvd (chgS { r with fl := updF r.fl g ⟨[], 0⟩ } ⟨⟨#[]⟩, t, g⟩) k → lvd r k ∨ k = g := fun k hk => by
            rcases hk with ⟨p, h4, h5⟩ | ⟨p, h4, h5⟩ | ⟨x, h4, h5, h6⟩
            · rcases appN_mem h4 with h7 | h7
              · rw [h7] at h5; exact .inr h5.symm
              · exact .inl (.inl ⟨p, h7, h5⟩)
            · exact .inl (.inr (.inl ⟨p, h4, h5⟩))
            · rcases List.mem_append.1 h4 with h7 | h7
              · exact .inl (.inr (.inr ⟨x, h7, h5, h6⟩))
              · rw [List.mem_singleton.1 h7] at h6; exact .inr h6.symm
          refine .inr ⟨_, _, rfl, rfl, ⟨h.room, by show s.steps + 1 = r.steps + 1; rw [h.steps], ?_, hsf, ?_, fun k hk => ?_, fun j k hj hk e => ?_⟩, rfl, rfl⟩
          · show appN ⟨⟨#[]⟩, t, f⟩ s.names = mapF (upP φ g f) (appN ⟨⟨#[]⟩, t, g⟩ r.names)
            rw [hnm, appN_mapF hc]
          · show (s.chg ++ [_]).map (nrm id) = (r.chg ++ [_]).map (nrm (upP φ g f))
            rw [List.map_append, List.map_append, hch, List.map_singleton, List.map_singleton, hc]
          · show updF s.fl f ⟨[], 0⟩ (upP φ g f k) = updF r.fl g ⟨[], 0⟩ k
            rcases hlv k hk with h4 | h4
            · rw [hup k h4]
              unfold updF
              rw [if_neg (hrf k h4), if_neg (hne k h4)]
              exact h.fl k h4
            · rw [h4, hg1]
              unfold updF
              rw [if_pos rfl, if_pos rfl]
          · rcases hlv j hj with h4 | h4 <;> rcases hlv k hk with h5 | h5
            · rw [hup j h4, hup k h5] at e; exact h.inj j k h4 h5 e
            · rw [hup j h4, h5, hg1] at e; exact absurd e (hrf j h4)
            · rw [hup k h5, h4, hg1] at e; exact absurd e.symm (hrf k h5)
            · rw [h4, h5]

end

end Go.Proofs.Ytkceahdpcdfckaa

/-
  Layer 9: two disks that tell the same: crashes, calls of a script.
-/
namespace Go.Proofs.Ytkceahdpcdfckaa
open Go.RowKit Go.Maps

theorem foldN_mapF {φ : Nat → Nat} : ∀ (cs cs' : List Chg) (L : Nms), cs.map (nrm id) = cs'.map (nrm φ) → foldN (mapF φ L) cs = mapF φ (foldN L cs')
  | [], [], L, _ => rfl
  | [], _ :: _, L, h => by simp at h
  | _ :: _, [], L, h => by simp at h
  | c :: cs, c' :: cs', L, h => by
    simp only [List.map_cons, List.cons.injEq] at h
    show foldN (appN c (mapF φ L)) cs = mapF φ (foldN (appN c' L) cs')
    rw [appN_mapF h.1]
    exact foldN_mapF cs cs' _ h.2

theorem foldN_live (cs : List Chg) : ∀ (L : Nms) (p : ByteArray × Nat), p ∈ foldN L cs → p ∈ L ∨ ∃ c ∈ cs, c.dst.size ≠ 0 ∧ p = (c.dst, c.f) := by
  induction cs with
  | nil => intro L p h; exact .inl h
  | cons c cs ih =>
    intro L p h
    rcases ih (appN c L) p h with h | ⟨c', h1, h2⟩
    · by_cases h0 : c.dst.size = 0
      · unfold appN at h
        rw [if_pos h0] at h
        exact .inl (delN_mem h)
      · rcases appN_mem h with h | h
        · exact .inr ⟨c, List.mem_cons_self, h0, h⟩
        · exact .inl h
    · exact .inr ⟨c', List.mem_cons_of_mem _ h1, h2⟩

theorem craFl_mapF {φ : Nat → Nat} {A : Nat → Prop} (cs : List Int) (hi : ∀ j k, A j → A k → φ j = φ k → j = k) : ∀ (L : Nms) (i : Nat) (sf rf : Nat → Fl), (∀ p ∈ L, A p.2) → (∀ k, A k → sf (φ k) = rf k) → ∀ k, A k → craFl cs i (mapF φ L) sf (φ k) = craFl cs i L rf k
  | [], i, sf, rf, _, h, k, hk => h k hk
  | p :: L, i, sf, rf, hL, h, k, hk => by
    show craFl cs (i + 1) (mapF φ L) (updF sf (φ p.2) (crF (sf (φ p.2)) (pkN cs (i + 1)))) (φ k) = craFl cs (i + 1) L (updF rf p.2 (crF (rf p.2) (pkN cs (i + 1)))) k
    have hp := hL p List.mem_cons_self
    refine craFl_mapF cs hi L (i + 1) _ _ (fun q hq => hL q (List.mem_cons_of_mem _ hq)) (fun j hj => ?_) k hk
    unfold updF
    by_cases e : j = p.2
    · rw [if_pos e, e, if_pos rfl, h _ hp]
    · rw [if_neg e, if_neg (fun e2 => e (hi j p.2 hj hp e2))]
      exact h j hj

section
variable {φ : Nat → Nat} {s r : Ds}

theorem SimD.rem (h : SimD φ s r) (hl : s.left = 0 ↔ r.left = 0) (t : ByteArray) : SimR φ s r (remS s t) (remS r t) := by
  unfold remS
  by_cases h0 : r.left = 0
  · rw [if_pos h0, if_pos (hl.2 h0)]; exact .inl ⟨94, rfl, rfl⟩
  · rw [if_neg h0, if_neg (fun e => h0 (hl.1 e)), h.get]
    cases hg : getN t r.names with
    | none => exact .inl ⟨92, rfl, rfl⟩
    | some k => exact .inr ⟨_, _, rfl, rfl, h.chgs rfl (fun h => absurd rfl h), rfl, rfl⟩

theorem lvd_cra (r : Ds) (cs : List Int) (k : Nat) (hk : lvd (craS r cs) k) : lvd r k := by
  have hm : ∀ p ∈ craN r cs, lvd r p.2 := fun p hp => by
    rcases foldN_live _ _ p hp with h1 | ⟨c, h1, h2, h3⟩
    · exact .inr (.inl ⟨p, h1, rfl⟩)
    · rw [h3]; exact .inr (.inr ⟨c, List.mem_of_mem_take h1, h2, rfl⟩)
  rcases hk with ⟨p, h1, h2⟩ | ⟨p, h1, h2⟩ | ⟨c, h1, _⟩
  · rw [← h2]; exact hm p h1
  · rw [← h2]; exact hm p h1
  · cases h1

theorem SimD.cra (h : SimD φ s r) (cs : List Int) : SimD φ (craS s cs) (craS r cs) := by
  have hn : craN s cs = mapF φ (craN r cs) := by
    unfold craN
    have hk : krN s cs = krN r cs := by unfold krN; rw [h.chgLen]
    rw [hk, h.safe]
    refine foldN_mapF _ _ _ ?_
    rw [List.map_take, List.map_take, h.chg]
  refine ⟨h.room, h.steps, hn, hn, rfl, fun k hk => ?_, fun j k hj hk => h.inj j k (lvd_cra r cs j hj) (lvd_cra r cs k hk)⟩
  show craFl cs 0 (craN s cs) s.fl (φ k) = craFl cs 0 (craN r cs) r.fl k
  rw [hn]
  refine craFl_mapF (A := lvd r) cs h.inj _ 0 _ _ (fun p hp => ?_) h.fl k (lvd_cra r cs k hk)
  exact lvd_cra r cs p.2 (.inl ⟨p, hp, rfl⟩)

/-- Behind a call: no step, or one. -/
def OneL (s r a b : Ds) : Prop := (a.left = s.left ∧ b.left = r.left ∧ b.steps = r.steps) ∨ (a.left = (stepS s).left ∧ b.left = (stepS r).left ∧ b.steps = r.steps + 1)

theorem SimR.or {x y : Except Nat Ds} (h : SimR φ s r x y) (hs : SimD φ s r) (hst : ∀ b, y = .ok b → b.steps = r.steps + 1) : SimD φ (orS s x) (orS r y) ∧ OneL s r (orS s x) (orS r y) := by
  rcases h with ⟨k, rfl, rfl⟩ | ⟨a, b, rfl, rfl, h1, h2, h3⟩
  · exact ⟨hs, .inl ⟨rfl, rfl, rfl⟩⟩
  · exact ⟨h1, .inr ⟨h2, h3, hst b rfl⟩⟩

theorem SimD.op (h : SimD φ s r) (hl : s.left = 0 ↔ r.left = 0) (o : O9) (f g : Nat) (hf : ¬ refd s f) (hg : ¬ refd r g) (h8 : o.k ≠ 8) (h9 : o.k ≠ 9) : ∃ φ', SimD φ' (opS s o f) (opS r o g) ∧ OneL s r (opS s o f) (opS r o g) := by
  unfold opS
  by_cases e1 : o.k = 1
  · rw [if_pos e1, if_pos e1]
    rcases h.cre hl o.a f g hf (fun hk => hg hk.refd) with ⟨k, h1, h2⟩ | ⟨a, b, h1, h2, h3, h4, h5⟩
    · rw [h1, h2]; exact ⟨φ, h, .inl ⟨rfl, rfl, rfl⟩⟩
    · rw [h1, h2]
      refine ⟨_, h3, .inr ⟨h4, h5, ?_⟩⟩
      unfold creS at h2
      repeat' split at h2
      all_goals cases h2
      rfl
  rw [if_neg e1, if_neg e1]
  by_cases e2 : o.k = 2
  · rw [if_pos e2, if_pos e2]
    exact ⟨φ, (h.app hl o.a o.bs).or h (fun b e => by
      unfold appS at e
      repeat' split at e
      all_goals cases e
      rfl)⟩
  rw [if_neg e2, if_neg e2]
  by_cases e3 : o.k = 3
  · rw [if_pos e3, if_pos e3]
    exact ⟨φ, (h.syn hl o.a).or h (fun b e => by
      unfold synS at e
      repeat' split at e
      all_goals cases e
      rfl)⟩
  rw [if_neg e3, if_neg e3]
  by_cases e4 : o.k = 4
  · rw [if_pos e4, if_pos e4]
    exact ⟨φ, (h.ren hl o.a o.b).or h (fun b e => by
      unfold renS at e
      repeat' split at e
      all_goals cases e
      rfl)⟩
  rw [if_neg e4, if_neg e4]
  by_cases e5 : o.k = 5
  · rw [if_pos e5, if_pos e5]
    exact ⟨φ, (h.rem hl o.a).or h (fun b e => by
      unfold remS at e
      repeat' split at e
      all_goals cases e
      rfl)⟩
  rw [if_neg e5, if_neg e5]
  by_cases e6 : o.k = 6
  · rw [if_pos e6, if_pos e6]
    exact ⟨φ, (h.syd hl).or h (fun b e => by
      unfold sydS at e
      repeat' split at e
      all_goals cases e
      rfl)⟩
  rw [if_neg e6, if_neg e6, if_neg h8, if_neg h8, if_neg h9, if_neg h9]
  exact ⟨φ, h, .inl ⟨rfl, rfl, rfl⟩⟩

end

theorem sim_new (n : Nat) : SimD id (newD n) (newD n) := ⟨rfl, rfl, rfl, rfl, rfl, fun _ _ => rfl, fun _ _ _ _ e => e⟩

theorem plyS_one {s s' : Ds} {o : O9} (h : PlyS s [o] s') : ∃ f, ¬ refd s f ∧ s' = opS s o f := by
  generalize hos : [o] = os at h
  cases h with
  | nil => cases hos
  | snoc o' f h1 hf =>
    rename_i s1 os1
    have h2 : os1 = [] ∧ o' = o := by
      cases os1 with
      | nil => simp at hos; exact ⟨rfl, hos.symm⟩
      | cons x l => simp at hos
    obtain ⟨rfl, rfl⟩ := h2
    generalize hn : ([] : List O9) = l at h1
    cases h1 with
    | nil => exact ⟨f, hf, rfl⟩
    | snoc o'' f' _ _ => simp at hn

theorem stepL (s : Ds) : (stepS s).left = if s.left = -1 then -1 else s.left - 1 := rfl

/-- Texts: two rows of the same texts. -/
theorem xtexts_same (w : World) (va vb : Value) (I J : Nat → Prop) (xs : List ByteArray) (ha : SrcE strV w I va xs) (hb : SrcE strV w J vb xs) (hx : xs.length ≤ 1000000) :
    Calls Try.prog 25 #[va, vb] w fun e w' => e = .returned (.bool true) ∧ Same w w' := by
  obtain ⟨ao, ca, rfl, _, hsa⟩ := id ha
  obtain ⟨bo, cb, rfl, _, hsb⟩ := id hb
  obtain ⟨n, hn⟩ : ∃ n, n = xs.length := ⟨_, rfl⟩
  have HA : Hid (∀ j (hj : j < n), ∃ b o t, ao = some ⟨b, o, none⟩ ∧ w.cell? ⟨b, o + j, none⟩ = some (.string t) ∧ ∃ b' o', bo = some ⟨b', o', none⟩ ∧ w.cell? ⟨b', o' + j, none⟩ = some (.string t)) := hid (fun j hj => by
    have hne : xs ≠ [] := fun e => by rw [e] at hn; simp at hn; omega
    obtain ⟨b, o, h1, _, h2⟩ := hsa hne
    obtain ⟨b', o', h3, _, h4⟩ := hsb hne
    exact ⟨b, o, xs[j]'(by omega), h1, h2 j (by omega), b', o', h3, h4 j (by omega)⟩)
  have HN : Hid (n ≤ 1000000) := hid (by omega)
  rw [← hn]
  clear ha hb hsa hsb hx hn
  go_enter Try.func25, Try.ntmps25
  go_wp2_with fail
  go_loopg [5] n (fun qq z wr => ∃ i : Nat, z = .int .i64 (i : Nat) ∧ i ≤ n ∧ n - i ≤ qq ∧ Hid (Same w wr))
  case atStart => exact ⟨0, rfl, by omega, by omega, hid (Kept.refl _ _)⟩
  case round =>
    obtain ⟨i, rfl, hi, hiq, HI⟩ := hrel
    by_cases hlt : i < n
    · have c1 : decide (i < n) = true := by simp; omega
      obtain ⟨b, o, t, ha, h1, b', o', hb, h2⟩ := HA.out i hlt
      subst ha hb
      have k1 : wr.cell? ⟨b, o + i, none⟩ = some (.string t) := HI.out.cell h1 (fun f => f)
      have k2 : wr.cell? ⟨b', o' + i, none⟩ = some (.string t) := HI.out.cell h2 (fun f => f)
      have i1 : (0 : Int) ≤ (i : Int) := by omega
      have i2 : (i : Int) < (n : Int) := by omega
      have hiw : IntKind.i64.wrap ((i : Int) + 1) = ((i + 1 : Nat) : Int) := by rw [IntKind.wrap_i64]; have := HN.out; omega
      have HX : Hid (i < n) := hlt
      clear h1 h2 hlt
      go_wp2_with fail
      go_quiet (fail)
      go_wp2_with fail
      go_roundg (gk - 1)
      case measure => have := HX.out; omega
      case rel => exact ⟨i + 1, by go_num, by have := HX.out; omega, by have := HX.out; omega, hid (HI.out.drewN _)⟩
    · have c1 : decide (i < n) = false := by simp; omega
      go_wp2_with fail
      go_ret
      exact ⟨rfl, HI.out⟩

end Go.Proofs.Ytkceahdpcdfckaa

/-
  Layer 9's law DiskStops.
-/
namespace Go.Proofs.Ytkceahdpcdfckaa
open Go.RowKit Go.Maps

set_option maxHeartbeats 400000 in
theorem dused_down (w : World) (d : Nat) (h : w.cell? ⟨d, 5, none⟩ = some (.int .i64 0)) :
    Calls Try.prog 29 #[.pointer (some ⟨d, 0, none⟩)] w fun e w' => e = .returned (.int .i64 0) ∧ w' = w := by
  have HR := drefuse_any w d 0 h
  rw [show dwn 0 = 94 from rfl] at HR
  go_enter Try.func29, Try.ntmps29
  go_wp2_with fail
  refine HR.mono ?_
  rintro e w1 ⟨rfl, hw1⟩
  subst hw1
  go_wp2_with fail
  go_ret
  exact ⟨rfl, rfl⟩

/-- Used's answer. -/
def useS (s : Ds) : Nat := if s.left = 0 then 0 else usedN s

theorem xused {N : Nat} {w : World} {d : Nat} {s : Ds} {ρ : Rho} (h : DkX N w d s ρ) (hst : s.steps ≤ 1000000) :
    Calls Try.prog 29 #[.pointer (some ⟨d, 0, none⟩)] w fun e w' => e = .returned (.int .i64 (useS s : Nat)) ∧ Same w w' := by
  obtain ⟨nb, sb, cv, h⟩ := h
  by_cases hl : s.left = 0
  · have c5 : w.cell? ⟨d, 5, none⟩ = some (.int .i64 s.left) := h.blk.cell 5
    rw [hl] at c5
    refine (dused_down w d c5).mono (fun e w' hh => ⟨?_, by rw [hh.2]; exact Kept.refl _ _⟩)
    rw [hh.1, show useS s = 0 from if_pos hl]
    rfl
  · rw [show useS s = usedN s from if_neg hl]
    exact dused_any h hst hl

theorem src_none (w : World) : SrcE intV w (fun _ => False) (.slice none 0 0) [] := ⟨none, 0, rfl, Nat.le_refl _, fun h => absurd rfl h⟩

/-- The two disks of DiskStops, behind some calls. -/
structure StI (W : World) (N1 N2 d x : Nat) (m : Int) (i : Nat) (wr : World) (s r : Ds) (ρ1 ρ2 : Rho) (φ : Nat → Nat) : Prop where
  d1 : DkX N1 wr d s ρ1
  d2 : DkX N2 wr x r ρ2
  ap : ∀ k, ρ1 k = 0 ∨ ρ2 k = 0
  sim : SimD φ s r
  lr : r.left = -1
  ls : s.left = m - r.steps
  st : r.steps ≤ i
  le : (r.steps : Int) ≤ m
  old : Same W wr
  n1 : W.heap.size ≤ N1
  n2 : W.heap.size ≤ N2
  w1 : N1 ≤ wr.heap.size
  w2 : N2 ≤ wr.heap.size

/-- One call on both. -/
theorem StI.next {W : World} {N1 N2 d x : Nat} {m : Int} {i : Nat} {wr : World} {s r : Ds} {ρ1 ρ2 : Rho} {φ : Nat → Nat} (h : StI W N1 N2 d x m i wr s r ρ1 ρ2 φ) {o : O9} (h8 : o.k ≠ 8) (h9 : o.k ≠ 9) (hs : (r.steps : Int) ≠ m)
    {wa wb wc wd : World} {s' r' : Ds} {ρ1' ρ2' : Rho} (ka : Same wr wa) (p1 : PlyS s [o] s') (q1 : DkX N1 wb d s' ρ1') (m1 : MoR wa ρ1 ρ1') (k1 : Kept (fun k => ρ1 k ≠ 0) wa wb)
    (kc : Same wb wc) (p2 : PlyS r [o] r') (q2 : DkX N2 wd x r' ρ2') (m2 : MoR wc ρ2 ρ2') (k2 : Kept (fun k => ρ2 k ≠ 0) wc wd) : ∃ φ', StI W N1 N2 d x m (i + 1) wd s' r' ρ1' ρ2' φ' := by
  obtain ⟨f, hf, rfl⟩ := plyS_one p1
  obtain ⟨g, hg, rfl⟩ := plyS_one p2
  have hl0 : s.left ≠ 0 := by have := h.ls; omega
  obtain ⟨φ', hsim, hone⟩ := h.sim.op (by rw [h.lr]; exact ⟨fun e => absurd e hl0, fun e => by cases e⟩) o f g hf hg h8 h9
  have ap1 : ∀ k, ρ1' k = 0 ∨ ρ2 k = 0 := m1.apart h.ap (fun k hk => Nat.lt_of_lt_of_le (h.d2.new k hk).2 ka.size)
  have D1 : DkX N1 wd d (opS s o f) ρ1' := (q1.same kc).aside k2 (fun k => (ap1 k).symm)
  have hss := stepL s
  have hsr := stepL r
  rw [h.lr, if_pos rfl] at hsr
  rw [if_neg (by have := h.ls; have := h.le; omega)] at hss
  have hsz1 := ka.size
  have hsz2 := k1.size
  have hsz3 := kc.size
  have hsz4 := k2.size
  have h1 := h.w1
  have h2 := h.w2
  refine ⟨φ', D1, q2, fun k => (m2.apart (fun k => (ap1 k).symm) (fun k hk => Nat.lt_of_lt_of_le (q1.new k hk).2 kc.size) k).symm, hsim, ?_, ?_, ?_, ?_, ?_, h.n1, h.n2, by omega, by omega⟩
  · rcases hone with ⟨_, e, _⟩ | ⟨_, e, _⟩
    · rw [e]; exact h.lr
    · rw [e, hsr]
  · have := h.ls
    rcases hone with ⟨e1, _, e2⟩ | ⟨e1, _, e2⟩
    · rw [e1, e2]; exact this
    · rw [e1, e2, hss]; omega
  · have := h.st
    rcases hone with ⟨_, _, e2⟩ | ⟨_, _, e2⟩ <;> omega
  · have := h.le
    rcases hone with ⟨_, _, e2⟩ | ⟨_, _, e2⟩ <;> omega
  · have o1 : Same W wb := Kept.news (h.d1.same ka) (Same.trans h.old ka) h.n1 k1
    have o2 : Same W wc := Same.trans o1 kc
    have d2' : DkX N2 wc x r ρ2 := ((h.d2.same ka).aside k1 h.ap).same kc
    exact Kept.news d2' o2 h.n2 k2

end Go.Proofs.Ytkceahdpcdfckaa

/-
  Layer 9's law DiskStops: the walk.
-/
namespace Go.Proofs.Ytkceahdpcdfckaa
open Go.RowKit Go.Maps

theorem Same.bel9 {w w' : World} (h : Same w w') : Below w.heap.size w w' := Kept.below h (Nat.le_refl _) (fun _ _ e => e)

set_option maxRecDepth 100000 in
set_option maxHeartbeats 4000000 in
theorem diskStops_all (a0 : Int) (a1 : Option Addr) (len1 cap1 : Nat) (O1 : Nat → O9) (a2 : Int) (W : World) (_w0 : (Lit.int .i64 a0).wf = true) (h1 : Ops9 W (fun k => k < W.heap.size) a1 len1 O1) (w2 : (Lit.int .i64 a2).wf = true) :
    Calls Try.prog 6 #[.int .i64 a0, .slice a1 len1 cap1, .int .i64 a2] W fun e W' => e = .returned (.bool true) ∧ Below W.heap.size W W' := by
  have hm := wf9 w2
  clear _w0 w2
  have HL := dlarge_any W _ a1 len1 cap1 O1 h1
  have HO : Hid (Ops9 W (fun k => k < W.heap.size) a1 len1 O1) := h1
  clear h1
  go_enter Try.func6, Try.ntmps6
  go_wp2_with fail
  refine HL.mono ?_
  rintro e v1 ⟨rl, rfl, hrl, kv1⟩
  have H1 : Hid ((rl = false → len1 ≤ 1000 ∧ ∀ j, j < len1 → OpSm (O1 j)) ∧ Same W v1) := hid ⟨hrl, kv1⟩
  clear HL hrl kv1
  cases rl with
  | true =>
    go_wp2_with fail
    go_ret
    exact ⟨rfl, H1.out.2.bel9⟩
  | false =>
    have HL1 : Hid (len1 ≤ 1000 ∧ ∀ j, j < len1 → OpSm (O1 j)) := hid (H1.out.1 rfl)
    by_cases hneg : a2 < 0
    · have b1 : decide (a2 < 0) = true := by simp; omega
      clear hneg
      go_wp2_with fail
      go_ret
      exact ⟨rfl, H1.out.2.bel9⟩
    · have b1 : decide (a2 < 0) = false := by simp; omega
      by_cases hroom : a0 < 1 ∨ 4194304 < a0
      · have HB1 := dnew_bad v1 a0 hroom
        clear hroom hneg
        go_wp2_with fail
        refine HB1.mono ?_
        rintro e v2 ⟨rfl, hv2⟩
        subst hv2
        go_wp2_with fail
        refine HB1.mono ?_
        rintro e v3 ⟨rfl, hv3⟩
        subst hv3
        clear HB1
        go_wp2_with fail
        refine (dawake_any _).mono ?_
        rintro e v4 ⟨rfl, hk4⟩
        have HK4 := hid hk4
        clear hk4
        go_wp2_with fail
        go_ret
        exact ⟨rfl, (Same.trans H1.out.2 HK4.out).bel9⟩
      · obtain ⟨R, hR⟩ : ∃ R : Nat, a0 = (R : Int) := ⟨a0.toNat, by omega⟩
        subst hR
        have HR1 : Hid (1 ≤ R ∧ R ≤ 4194304) := hid (by omega)
        obtain ⟨m, hmm⟩ : ∃ m : Nat, a2 = (m : Int) := ⟨a2.toNat, by omega⟩
        subst hmm
        have HM : Hid ((m : Int) ≤ 9223372036854775807) := hid (by omega)
        clear hroom hneg hm
        have HN1 := xnew v1 R HR1.out.1 HR1.out.2
        go_wp2_with fail
        refine HN1.mono ?_
        rintro e v2 ⟨d, ρa, rfl, D2, K2⟩
        have H2 := hid (And.intro D2 K2)
        clear HN1 D2 K2
        have HN2 := xnew v2 R HR1.out.1 HR1.out.2
        go_wp2_with fail
        refine HN2.mono ?_
        rintro e v3 ⟨x, ρb, rfl, D3, K3⟩
        have H3 := hid (And.intro D3 K3)
        clear HN2 D3 K3
        have HST := xstop (H2.out.1.same H3.out.2) (m : Int) HM.out
        have hstp : stpS (newD R) (m : Int) = .ok { newD R with left := (m : Int) } := by
          unfold stpS
          rw [if_neg (show ¬ (newD R).left = 0 by show ¬ (-1 : Int) = 0; decide), if_neg (by omega)]
        rw [hstp] at HST
        clear hstp
        go_wp2_with fail
        refine HST.mono ?_
        rintro e v4 ⟨_, hok⟩
        obtain ⟨rfl, ρa', D4, M4, K4⟩ := hok _ rfl
        have hap : ∀ k, ρa k = 0 ∨ ρb k = 0 := fun k => by
          by_cases h0 : ρa k = 0
          · exact .inl h0
          · refine .inr (Classical.byContradiction (fun h => ?_))
            have := (H2.out.1.new k h0).2
            have := (H3.out.1.new k h).1
            omega
        have s1 := H1.out.2.size
        have s2 := H2.out.2.size
        have s3 := H3.out.2.size
        have s4 := K4.size
        have HS : Hid (StI W v1.heap.size v2.heap.size d x (m : Int) 0 v4 { newD R with left := (m : Int) } (newD R) ρa' ρb id) := hid ⟨D4, H3.out.1.aside K4 hap, M4.apart hap (fun k h => (H3.out.1.new k h).2), ⟨rfl, rfl, rfl, rfl, rfl, fun _ _ => rfl, fun _ _ _ _ e => e⟩, rfl, by show (m : Int) = (m : Int) - ((0 : Nat) : Int); omega, Nat.le_refl _, by show ((0 : Nat) : Int) ≤ (m : Int); omega, Kept.news (H2.out.1.same H3.out.2) (Same.trans H1.out.2 (Same.trans H2.out.2 H3.out.2)) s1 K4, s1, Nat.le_trans s1 s2, by omega, by omega⟩
        clear HST hok D4 M4 K4 hap s1 s2 s3 s4
        go_wp2_with fail
        go_loopg [11] len1 (fun qq z wr => ∃ (i : Nat) (s r : Ds) (ρ1 ρ2 : Rho) (φ : Nat → Nat), z = .int .i64 (i : Nat) ∧ i ≤ len1 ∧ len1 - i ≤ qq ∧ Hid (StI W v1.heap.size v2.heap.size d x (m : Int) i wr s r ρ1 ρ2 φ))
        case atStart => exact ⟨0, _, _, _, _, _, rfl, by omega, by omega, HS⟩
        case round =>
          obtain ⟨i, s, r, ρ1, ρ2, φ, rfl, hi, hiq, HI⟩ := hrel
          have HLN : Hid (len1 ≤ 1000) := hid HL1.out.1
          by_cases hlt : i < len1
          case' pos =>
            have c1 : decide (i < len1) = true := by simp; omega
            obtain ⟨hok, b, o, ha, hib, hat⟩ := HO.out i hlt
            subst ha
            have hat := hat.kept HI.out.old (fun f => f)
            have hokr := hok.kept HI.out.old (fun _ _ _ f => f)
            obtain ⟨y, hy⟩ : ∃ y, y = O1 i := ⟨_, rfl⟩
            have hsm := HL1.out.2 i hlt
            rw [← hy] at hat hokr hsm
            have HY : Hid (OpOk wr (fun k => k < W.heap.size) y ∧ OpSm y ∧ i < len1) := hid ⟨hokr, hsm, hlt⟩
            have i1 : (0 : Int) ≤ (i : Int) := by omega
            have i2 : (i : Int) < (len1 : Int) := by omega
            have hiw : IntKind.i64.wrap ((i : Int) + 1) = ((i + 1 : Nat) : Int) := by rw [IntKind.wrap_i64]; have := HLN.out; omega
            obtain ⟨k0, k1, k2, k3, k4, k5⟩ := hat
            obtain ⟨wA, hwA⟩ : ∃ W, W = wr.alloc (.cells #[.int .i64 y.k, .string y.a, .string y.b, .slice y.da y.dn y.dc, .int .i64 y.n, .slice y.ca y.cn y.cc] 36) := ⟨_, rfl⟩
            obtain ⟨xb, hxb⟩ : ∃ b, b = wr.heap.size := ⟨_, rfl⟩
            have BA : Blk wA xb #[.int .i64 y.k, .string y.a, .string y.b, .slice y.da y.dn y.dc, .int .i64 y.n, .slice y.ca y.cn y.cc] 36 := by rw [hwA, hxb]; exact Blk.new wr _ _
            have HBA := hid BA
            have HKA : Hid (Same wr wA ∧ xb = wr.heap.size) := hid ⟨by rw [hwA]; exact (Kept.refl _ wr).alloc _, hxb⟩
            obtain ⟨k, ta, tb, da, dn, dc, bs, n, ca, cn, cc, cs⟩ := y
            dsimp only at k0 k1 k2 k3 k4 k5 BA
            have q0 : wA.cell? ⟨xb, 0, none⟩ = some (.int .i64 k) := BA.cell 0
            have q1 : wA.cell? ⟨xb, 1, none⟩ = some (.string ta) := BA.cell 1
            have q2 : wA.cell? ⟨xb, 2, none⟩ = some (.string tb) := BA.cell 2
            have q3 : wA.cell? ⟨xb, 3, none⟩ = some (.slice da dn dc) := BA.cell 3
            have q4 : wA.cell? ⟨xb, 4, none⟩ = some (.int .i64 n) := BA.cell 4
            have q5 : wA.cell? ⟨xb, 5, none⟩ = some (.slice ca cn cc) := BA.cell 5
            have HIA : Hid (StI W v1.heap.size v2.heap.size d x (m : Int) (i + 1) wA s r ρ1 ρ2 φ) := hid (by
              have h9 := HI.out
              have h8 := HKA.out.1
              exact ⟨h9.d1.same h8, h9.d2.same h8, h9.ap, h9.sim, h9.lr, h9.ls, Nat.le_succ_of_le h9.st, h9.le, Same.trans h9.old h8, h9.n1, h9.n2, Nat.le_trans h9.w1 h8.size, Nat.le_trans h9.w2 h8.size⟩)
            clear hok hib hat hokr hy hsm hlt BA
            go_upto_region 13 with fail
            rw [← hwA, ← hxb]
            clear hwA hxb k0 k1 k2 k3 k4 k5
            by_cases e8 : k = 8
            case' pos =>
              subst e8
              go_wp2_with fail
              go_roundg (gk - 1)
              case measure => have := HY.out.2.2; omega
              case rel => exact ⟨i + 1, s, r, ρ1, ρ2, φ, by go_num, by have := HY.out.2.2; omega, by have := HY.out.2.2; omega, HIA⟩
            have f8 : (k == 8) = false := by simp [e8]
            by_cases e9 : k = 9
            case' pos =>
              subst e9
              go_wp2_with fail
              go_roundg (gk - 1)
              case measure => have := HY.out.2.2; omega
              case rel => exact ⟨i + 1, s, r, ρ1, ρ2, φ, by go_num, by have := HY.out.2.2; omega, by have := HY.out.2.2; omega, HIA⟩
            have f9 : (k == 9) = false := by simp [e9]
            have HKK : Hid (k ≠ 8 ∧ k ≠ 9) := hid ⟨e8, e9⟩
            clear e8 e9
            have HSX := xsteps HIA.out.d2
            go_wp2_with fail
            refine HSX.mono ?_
            rintro e wB ⟨rfl, hwB⟩
            subst hwB
            clear HSX
            by_cases hst : r.steps = m
            case' pos =>
              have g1 : ((r.steps : Int) == (m : Int)) = true := by simp; omega
              have HBK : Hid (r.steps = m) := hst
              clear hst HY HKK HBA HKA q0 q1 q2 q3 q4 q5
              go_upto_region 17 with fail
            case' neg =>
              have g1 : ((r.steps : Int) == (m : Int)) = false := by simp; omega
              have hne : (r.steps : Int) ≠ (m : Int) := by omega
              obtain ⟨wP, hwP⟩ : ∃ W, W = wB.alloc (.cells #[.int .i64 k, .string ta, .string tb, .slice da dn dc, .int .i64 n, .slice ca cn cc] 36) := ⟨_, rfl⟩
              have kP : Same wB wP := by rw [hwP]; exact (Kept.refl _ wB).alloc _
              have BP : Blk wP wB.heap.size #[.int .i64 k, .string ta, .string tb, .slice da dn dc, .int .i64 n, .slice ca cn cc] 36 := by rw [hwP]; exact Blk.new wB _ _
              have hia := HIA.out
              have hrA : wr.heap.size ≤ wB.heap.size := HKA.out.1.size
              have hlow : ∀ q, q < W.heap.size → ρ1 q = 0 ∧ ρ2 q = 0 := fun q hq => ⟨Classical.byContradiction (fun h0 => by have := (hia.d1.new q h0).1; have := hia.n1; omega), Classical.byContradiction (fun h0 => by have := (hia.d2.new q h0).1; have := hia.n2; omega)⟩
              have hO : Ops9 wP (fun q => q < W.heap.size ∨ q = wB.heap.size) (some ⟨wB.heap.size, 0, none⟩) 1 (fun _ => ⟨k, ta, tb, da, dn, dc, bs, n, ca, cn, cc, cs⟩) := fun j hj => by
                have h9 := ((HY.out.1.kept HKA.out.1 (fun _ _ _ f => f)).kept kP (fun _ _ _ f => f))
                refine ⟨⟨h9.src.mono (fun _ e => .inl e), h9.len, h9.byte, h9.nil, h9.ints.mono (fun _ e => .inl e), h9.clen, h9.rng, h9.num⟩, wB.heap.size, 0, rfl, .inr rfl, ?_⟩
                have hj0 : j = 0 := by omega
                subst hj0
                exact ⟨BP.cell 0, BP.cell 1, BP.cell 2, BP.cell 3, BP.cell 4, BP.cell 5⟩
              have HP1 := dplay_any (hia.d1.same kP) (by rw [hia.sim.steps]; have := hia.st; have := HLN.out; have := HY.out.2.2; omega) (Nat.le_trans hia.w1 kP.size) _ (some ⟨wB.heap.size, 0, none⟩) 1 1 _ hO (fun q hq => by
                rcases hq with hq | hq
                · exact (hlow q hq).1
                · exact Classical.byContradiction (fun h0 => by have := (hia.d1.new q h0).2; omega)) (fun j _ => HY.out.2.1) (by decide)
              have HKP : Hid (Same wB wP) := kP
              have HNE : Hid ((r.steps : Int) ≠ (m : Int)) := hne
              have HLOW : Hid (∀ q, q < W.heap.size → ρ1 q = 0 ∧ ρ2 q = 0) := hlow
              clear hst hne kP BP hia hrA hlow hO
              go_wp2_with fail
              rw [← hwP]
              clear hwP
              refine HP1.mono ?_
              rintro e wC ⟨rfl, s', ρ1', D', PS', hst', MR', KK'⟩
              have HC : Hid (DkX v1.heap.size wC d s' ρ1' ∧ PlyS s [⟨k, ta, tb, da, dn, dc, bs, n, ca, cn, cc, cs⟩] s' ∧ MoR wP ρ1 ρ1' ∧ Kept (fun q => ρ1 q ≠ 0) wP wC) := hid ⟨D', by simpa using PS', MR', KK'⟩
              have BC : Blk wC xb #[.int .i64 k, .string ta, .string tb, .slice da dn dc, .int .i64 n, .slice ca cn cc] 36 := ((HBA.out.kept HKP.out (fun f => f)).kept KK' (fun h0 => by have := (HI.out.d1.new xb h0).2; have := HKA.out.2; omega))
              have r0 : wC.cell? ⟨xb, 0, none⟩ = some (.int .i64 k) := BC.cell 0
              have r1 : wC.cell? ⟨xb, 1, none⟩ = some (.string ta) := BC.cell 1
              have r2 : wC.cell? ⟨xb, 2, none⟩ = some (.string tb) := BC.cell 2
              have r3 : wC.cell? ⟨xb, 3, none⟩ = some (.slice da dn dc) := BC.cell 3
              have r4 : wC.cell? ⟨xb, 4, none⟩ = some (.int .i64 n) := BC.cell 4
              have r5 : wC.cell? ⟨xb, 5, none⟩ = some (.slice ca cn cc) := BC.cell 5
              obtain ⟨wQ, hwQ⟩ : ∃ W, W = wC.alloc (.cells #[.int .i64 k, .string ta, .string tb, .slice da dn dc, .int .i64 n, .slice ca cn cc] 36) := ⟨_, rfl⟩
              have kQ : Same wC wQ := by rw [hwQ]; exact (Kept.refl _ wC).alloc _
              have BQ : Blk wQ wC.heap.size #[.int .i64 k, .string ta, .string tb, .slice da dn dc, .int .i64 n, .slice ca cn cc] 36 := by rw [hwQ]; exact Blk.new wC _ _
              have hia := HIA.out
              have hszC : wP.heap.size ≤ wC.heap.size := KK'.size
              have hO2 : Ops9 wQ (fun q => q < W.heap.size ∨ q = wC.heap.size) (some ⟨wC.heap.size, 0, none⟩) 1 (fun _ => ⟨k, ta, tb, da, dn, dc, bs, n, ca, cn, cc, cs⟩) := fun j hj => by
                have h9 := ((((HY.out.1.kept HKA.out.1 (fun _ _ _ f => f)).kept HKP.out (fun _ _ _ f => f)).kept KK' (fun q hq _ h0 => h0 (HLOW.out q hq).1)).kept kQ (fun _ _ _ f => f))
                refine ⟨⟨h9.src.mono (fun _ e => .inl e), h9.len, h9.byte, h9.nil, h9.ints.mono (fun _ e => .inl e), h9.clen, h9.rng, h9.num⟩, wC.heap.size, 0, rfl, .inr rfl, ?_⟩
                have hj0 : j = 0 := by omega
                subst hj0
                exact ⟨BQ.cell 0, BQ.cell 1, BQ.cell 2, BQ.cell 3, BQ.cell 4, BQ.cell 5⟩
              have hd2 : DkX v2.heap.size wQ x r ρ2 := (((hia.d2.same HKP.out).aside KK' hia.ap).same kQ)
              have hszP := HKP.out.size
              have HP2 := dplay_any hd2 (by have := hia.st; have := HLN.out; have := HY.out.2.2; omega) (by have := hia.w2; have := kQ.size; omega) _ (some ⟨wC.heap.size, 0, none⟩) 1 1 _ hO2 (fun q hq => by
                rcases hq with hq | hq
                · exact (HLOW.out q hq).2
                · exact Classical.byContradiction (fun h0 => by have := (hia.d2.new q h0).2; omega)) (fun j _ => HY.out.2.1) (by decide)
              have HKQ : Hid (Same wC wQ) := kQ
              clear HP1 D' PS' hst' MR' KK' BC kQ BQ hia hszC hO2 hd2 hszP q0 q1 q2 q3 q4 q5
              go_wp2_with fail
              rw [← hwQ]
              clear hwQ r0 r1 r2 r3 r4 r5
              refine HP2.mono ?_
              rintro e wD ⟨rfl, r', ρ2', D2', PS2', hst2', MR2', KK2'⟩
              obtain ⟨φ', HN⟩ : ∃ φ', Hid (StI W v1.heap.size v2.heap.size d x (m : Int) (i + 1) wD s' r' ρ1' ρ2' φ') := by
                have h8 := HKA.out.1
                obtain ⟨φ', h9⟩ := HI.out.next (o := ⟨k, ta, tb, da, dn, dc, bs, n, ca, cn, cc, cs⟩) HKK.out.1 HKK.out.2 HNE.out (Same.trans h8 HKP.out) HC.out.2.1 HC.out.1 HC.out.2.2.1 HC.out.2.2.2 HKQ.out (by simpa using PS2') D2' MR2' KK2'
                exact ⟨φ', hid h9⟩
              clear HP2 D2' PS2' hst2' MR2' KK2'
              go_wp2_with fail
              go_roundg (gk - 1)
              case measure => have := HY.out.2.2; omega
              case rel => exact ⟨i + 1, s', r', ρ1', ρ2', φ', by go_num, by have := HY.out.2.2; omega, by have := HY.out.2.2; omega, HN⟩
          case' neg =>
            have c1 : decide (i < len1) = false := by simp; omega
            have HIA : Hid (StI W v1.heap.size v2.heap.size d x (m : Int) (i + 1) wr s r ρ1 ρ2 φ) := hid (by
              have h9 := HI.out
              exact ⟨h9.d1, h9.d2, h9.ap, h9.sim, h9.lr, h9.ls, Nat.le_succ_of_le h9.st, h9.le, h9.old, h9.n1, h9.n2, h9.w1, h9.w2⟩)
            have HBK : Hid True := hid trivial
            clear hlt
            go_upto_region 17 with fail
          all_goals
            have HSX := xsteps HIA.out.d2
            go_wp2_with fail
            refine HSX.mono ?_
            rintro e wE ⟨rfl, hwE⟩
            subst hwE
            clear HSX
            have hsi : s.steps = r.steps := HIA.out.sim.steps
            have hls := HIA.out.ls
            have hst6 : r.steps ≤ 1001 := by have := HIA.out.st; have := HLN.out; omega
            have HST6 : Hid (r.steps ≤ 1001 ∧ s.steps = r.steps) := hid ⟨hst6, hsi⟩
            have HS1 := xsteps HIA.out.d1
            have HS2 := xsteps HIA.out.d2
            rw [hsi] at HS1
            have HDN := xdown HIA.out.d1
            by_cases hst : r.steps = m
            · have g2 : ((r.steps : Int) == (m : Int)) = true := by simp; omega
              have hl0 : s.left = 0 := by omega
              have HL0 : Hid (s.left = 0) := hl0
              rw [show (s.left == 0) = true by simp [hl0]] at HDN
              clear hst hl0 hls hst6 hsi
              go_wp2_with fail
              refine HDN.mono ?_
              rintro e wF ⟨rfl, hwF⟩
              subst hwF
              clear HDN
              go_wp2_with fail
              refine HS1.mono ?_
              rintro e wF ⟨rfl, hwF⟩
              subst hwF
              clear HS1
              go_wp2_with fail
              refine HS2.mono ?_
              rintro e wF ⟨rfl, hwF⟩
              subst hwF
              clear HS2
              have hcr : creS s ⟨#[122]⟩ wF.heap.size = .error 94 := if_pos HL0.out
              have HCR := xcreate HIA.out.d1 (by have := HST6.out; omega) HIA.out.w1 ⟨#[122]⟩ (by decide)
              rw [hcr] at HCR
              clear hcr
              go_wp2_with fail
              refine HCR.mono ?_
              rintro e wG ⟨hno, _⟩
              obtain ⟨rfl, kG⟩ := hno 94 rfl
              clear HCR hno
              have HSD := xsyncdir (HIA.out.d1.same kG) (by have := HST6.out; omega) (Nat.le_trans HIA.out.w1 kG.size)
              rw [show sydS s = .error 94 from if_pos HL0.out] at HSD
              have HG : Hid (Same wF wG) := kG
              clear kG
              go_wp2_with fail
              refine HSD.mono ?_
              rintro e wH ⟨hno, _⟩
              obtain ⟨rfl, kH⟩ := hno 94 rfl
              clear HSD hno
              have HH : Hid (Same wF wH) := hid (Same.trans HG.out kH)
              clear kH HG
              have HRD := xread (HIA.out.d1.same HH.out) ⟨#[97]⟩ (by decide)
              rw [show reaS s ⟨#[97]⟩ = .error 94 from if_pos HL0.out] at HRD
              go_wp2_with fail
              refine HRD.mono ?_
              rintro e wJ ⟨hno, _⟩
              obtain ⟨rfl, hwJ⟩ := hno 94 rfl
              subst hwJ
              clear HRD hno
              have HNM := xnames (HIA.out.d1.same HH.out) (by have := HST6.out; omega)
              rw [show namS s = [] from if_pos HL0.out] at HNM
              go_wp2_with fail
              refine HNM.mono ?_
              rintro e wK ⟨vK, rfl, _, kK, hvK⟩
              have hvK := hvK.2 rfl
              subst hvK
              have HK : Hid (Same wF wK) := hid (Same.trans HH.out kK)
              clear HNM kK
              have HUS := xused (HIA.out.d1.same HK.out) (by have := HST6.out; omega)
              rw [show useS s = 0 from if_pos HL0.out] at HUS
              go_wp2_with fail
              refine HUS.mono ?_
              rintro e wL ⟨rfl, kL⟩
              have HLL : Hid (Same wF wL) := hid (Same.trans HK.out kL)
              clear HUS kL
              have HSP := xstop (HIA.out.d1.same HLL.out) 1 (by decide)
              rw [show stpS s 1 = .error 94 from if_pos HL0.out] at HSP
              go_wp2_with fail
              refine HSP.mono ?_
              rintro e wM ⟨hno, _⟩
              obtain ⟨rfl, kM⟩ := hno 94 rfl
              have HMM : Hid (Same wF wM) := hid (Same.trans HLL.out kM)
              clear HSP hno kM
              have HC1 := xcrash (HIA.out.d1.same HMM.out) (by have := HST6.out; omega) (Nat.le_trans HIA.out.w1 HMM.out.size) _ _ [] (src_none wM) (by simp) (fun k f => f.elim)
              go_wp2_with fail
              refine HC1.mono ?_
              rintro e wN ⟨_, hok⟩
              obtain ⟨rfl, ρ3, D3, M3, K3⟩ := hok _ rfl
              have H3' : Hid (DkX v1.heap.size wN d (craS s []) ρ3 ∧ DkX v2.heap.size wN x r ρ2 ∧ (∀ k, ρ3 k = 0 ∨ ρ2 k = 0) ∧ Same W wN ∧ v2.heap.size ≤ wN.heap.size) := hid ⟨D3, (HIA.out.d2.same HMM.out).aside K3 HIA.out.ap, M3.apart HIA.out.ap (fun k h => Nat.lt_of_lt_of_le (HIA.out.d2.new k h).2 HMM.out.size), Kept.news (HIA.out.d1.same HMM.out) (Same.trans HIA.out.old HMM.out) HIA.out.n1 K3, Nat.le_trans HIA.out.w2 (Nat.le_trans HMM.out.size K3.size)⟩
              clear HC1 hok D3 M3 K3
              have HC2 := xcrash H3'.out.2.1 (by have := HST6.out; omega) H3'.out.2.2.2.2 _ _ [] (src_none wN) (by simp) (fun k f => f.elim)
              go_wp2_with fail
              refine HC2.mono ?_
              rintro e wO ⟨_, hok⟩
              obtain ⟨rfl, ρ4, D4, M4, K4⟩ := hok _ rfl
              have H4 : Hid (DkX v1.heap.size wO d (craS s []) ρ3 ∧ DkX v2.heap.size wO x (craS r []) ρ4 ∧ Same W wO) := hid ⟨H3'.out.1.aside K4 (fun k => (H3'.out.2.2.1 k).symm), D4, Kept.news H3'.out.2.1 H3'.out.2.2.2.1 HIA.out.n2 K4⟩
              clear HC2 hok D4 M4 K4
              go_wp2_with fail
              refine (dawake_any _).mono ?_
              rintro e wP ⟨rfl, kP⟩
              have HP : Hid (Same wO wP) := kP
              clear kP
              have HN1 := xnames (H4.out.1.same HP.out) (by show s.steps ≤ _; have := HST6.out; omega)
              go_wp2_with fail
              refine HN1.mono ?_
              rintro e wQ ⟨vQ, rfl, hQ, kQ, _⟩
              have HQ' : Hid (RowE wP.heap.size 9 strV wQ vQ (namS (craS s [])) ∧ Same wO wQ) := hid ⟨hQ, Same.trans HP.out kQ⟩
              obtain ⟨aQ, cQ, hvQ, _⟩ := hQ.shape
              obtain ⟨nQ, hnQ⟩ : ∃ n, n = (namS (craS s [])).length := ⟨_, rfl⟩
              rw [← hnQ] at hvQ
              subst hvQ
              clear HN1 hQ kQ hnQ
              have HN2 := xnames (H4.out.2.1.same HQ'.out.2) (by show r.steps ≤ _; have := HST6.out; omega)
              go_wp2_with fail
              refine HN2.mono ?_
              rintro e wR ⟨vR, rfl, hR, kR, _⟩
              have hsim := HIA.out.sim.cra []
              have hnm : namS (craS s []) = namS (craS r []) := by
                unfold namS
                rw [if_neg (show ¬ (craS s []).left = 0 by show ¬ (-1 : Int) = 0; decide), if_neg (show ¬ (craS r []).left = 0 by show ¬ (-1 : Int) = 0; decide)]
                exact hsim.nam
              have hlen : (namS (craS r [])).length ≤ 1000000 := by
                unfold namS
                rw [if_neg (show ¬ (craS r []).left = 0 by show ¬ (-1 : Int) = 0; decide), List.length_map]
                obtain ⟨_, _, _, h9⟩ := H4.out.2.1
                have h8 := h9.lens.1
                have h7 : (craS r []).steps = r.steps := rfl
                have := HST6.out
                omega
              have HTX := xtexts_same wR (.slice aQ nQ cQ) vR _ _ (namS (craS r [])) (by rw [← hnm]; exact SrcE.ofRow (HQ'.out.1.kept kR (fun _ _ f => f))) (SrcE.ofRow hR) hlen
              have HR' : Hid (Same wO wR) := hid (Same.trans HQ'.out.2 kR)
              obtain ⟨aR, cR, hvR, _⟩ := hR.shape
              obtain ⟨nR, hnR⟩ : ∃ n, n = (namS (craS r [])).length := ⟨_, rfl⟩
              rw [← hnR] at hvR
              subst hvR
              clear HN2 hR kR hnm hlen hnR hsim
              go_wp2_with fail
              refine HTX.mono ?_
              rintro e wS ⟨rfl, kS⟩
              have HSS : Hid (Same wO wS) := hid (Same.trans HR'.out kS)
              clear HTX kS
              have HU1 := xused (H4.out.1.same HSS.out) (by show s.steps ≤ _; have := HST6.out; omega)
              go_wp2_with fail
              refine HU1.mono ?_
              rintro e wT ⟨rfl, kT⟩
              have HTT : Hid (Same wO wT) := hid (Same.trans HSS.out kT)
              clear HU1 kT
              have HU2 := xused (H4.out.2.1.same HTT.out) (by show r.steps ≤ _; have := HST6.out; omega)
              have hue : useS (craS r []) = useS (craS s []) := by
                unfold useS
                rw [if_neg (show ¬ (craS s []).left = 0 by show ¬ (-1 : Int) = 0; decide), if_neg (show ¬ (craS r []).left = 0 by show ¬ (-1 : Int) = 0; decide)]
                exact (HIA.out.sim.cra []).used.symm
              rw [hue] at HU2
              clear hue
              go_wp2_with fail
              refine HU2.mono ?_
              rintro e wU ⟨rfl, kU⟩
              have HUU : Hid (Same wO wU) := hid (Same.trans HTT.out kU)
              clear HU2 kU
              go_wp2_with fail
              go_ret
              exact ⟨rfl, (Same.trans H4.out.2.2 HUU.out).bel9⟩
            · first
              | exact absurd HBK.out hst
              | (have g2 : ((r.steps : Int) == (m : Int)) = false := by simp; omega
                 have hl0 : s.left ≠ 0 := by omega
                 have HL0 : Hid (s.left ≠ 0) := hl0
                 rw [show (s.left == 0) = false by simp [hl0]] at HDN
                 clear hst hl0 hls hst6 hsi
                 go_wp2_with fail
                 refine HDN.mono ?_
                 rintro e wF ⟨rfl, hwF⟩
                 subst hwF
                 clear HDN
                 go_wp2_with fail
                 refine HS1.mono ?_
                 rintro e wF ⟨rfl, hwF⟩
                 subst hwF
                 clear HS1
                 go_wp2_with fail
                 refine HS2.mono ?_
                 rintro e wF ⟨rfl, hwF⟩
                 subst hwF
                 clear HS2
                 go_wp2_with fail
                 refine (dawake_any _).mono ?_
                 rintro e wP ⟨rfl, kP⟩
                 have HP : Hid (Same wF wP) := kP
                 clear kP
                 have HN1 := xnames (HIA.out.d1.same HP.out) (by have := HST6.out; omega)
                 go_wp2_with fail
                 refine HN1.mono ?_
                 rintro e wQ ⟨vQ, rfl, hQ, kQ, _⟩
                 have HQ' : Hid (RowE wP.heap.size 9 strV wQ vQ (namS s) ∧ Same wF wQ) := hid ⟨hQ, Same.trans HP.out kQ⟩
                 obtain ⟨aQ, cQ, hvQ, _⟩ := hQ.shape
                 obtain ⟨nQ, hnQ⟩ : ∃ n, n = (namS s).length := ⟨_, rfl⟩
                 rw [← hnQ] at hvQ
                 subst hvQ
                 clear HN1 hQ kQ hnQ
                 have HN2 := xnames (HIA.out.d2.same HQ'.out.2) (by have := HST6.out; omega)
                 go_wp2_with fail
                 refine HN2.mono ?_
                 rintro e wR ⟨vR, rfl, hR, kR, _⟩
                 have hlr := HIA.out.lr
                 have hnm : namS s = namS r := by
                   unfold namS
                   rw [if_neg HL0.out, if_neg (by omega)]
                   exact HIA.out.sim.nam
                 have hlen : (namS r).length ≤ 1000000 := by
                   unfold namS
                   rw [if_neg (by omega), List.length_map]
                   obtain ⟨_, _, _, h9⟩ := HIA.out.d2
                   have h8 := h9.lens.1
                   have := HST6.out
                   omega
                 have HTX := xtexts_same wR (.slice aQ nQ cQ) vR _ _ (namS r) (by rw [← hnm]; exact SrcE.ofRow (HQ'.out.1.kept kR (fun _ _ f => f))) (SrcE.ofRow hR) hlen
                 have HR' : Hid (Same wF wR) := hid (Same.trans HQ'.out.2 kR)
                 obtain ⟨aR, cR, hvR, _⟩ := hR.shape
                 obtain ⟨nR, hnR⟩ : ∃ n, n = (namS r).length := ⟨_, rfl⟩
                 rw [← hnR] at hvR
                 subst hvR
                 clear HN2 hR kR hnm hlen hnR hlr
                 go_wp2_with fail
                 refine HTX.mono ?_
                 rintro e wS ⟨rfl, kS⟩
                 have HSS : Hid (Same wF wS) := hid (Same.trans HR'.out kS)
                 clear HTX kS
                 go_wp2_with fail
                 go_ret
                 exact ⟨rfl, (Same.trans HIA.out.old HSS.out).bel9⟩)

end Go.Proofs.Ytkceahdpcdfckaa
