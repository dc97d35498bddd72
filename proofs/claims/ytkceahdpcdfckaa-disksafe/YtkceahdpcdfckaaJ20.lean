/-
  Of the proof: parts DlF, DlG, DlH, DlI, DlJ, DlK, DlL, DlM, DlSafe.
-/
import Derived.Deep.Slices
import Derived.Deep.Strs
import Derived.Test.YtkceahdpcdfckaaJ18
import Derived.Test.YtkceahdpcdfckaaJ19

/-
  Layer 9's law: scripts that came in.
-/
namespace Go.Proofs.Ytkceahdpcdfckaa
open Go.ChangeShapes Go.WideShapes Go.ChangeAt Go.RowKit Go.Deep Go.Maps

/-- A call of a script. -/
structure O9 where
  k : Int
  a : ByteArray
  b : ByteArray
  da : Option Addr
  dn : Nat
  dc : Nat
  bs : List Nat
  n : Int
  ca : Option Addr
  cn : Nat
  cc : Nat
  cs : List Int

instance : Inhabited O9 := ⟨⟨0, ⟨#[]⟩, ⟨#[]⟩, none, 0, 0, [], 0, none, 0, 0, []⟩⟩

/-- It can be read. -/
structure OpOk (W : World) (I : Nat → Prop) (x : O9) : Prop where
  src : Src W I (.slice x.da x.dn x.dc) x.bs
  len : x.bs.length = x.dn
  byte : ∀ b ∈ x.bs, b < 256
  nil : ∀ n c, Value.slice x.da x.dn x.dc = .slice none n c → n = 0 ∧ c = 0
  ints : SrcE intV W I (.slice x.ca x.cn x.cc) x.cs
  clen : x.cs.length = x.cn
  rng : ∀ c ∈ x.cs, -9223372036854775808 ≤ c ∧ c ≤ 9223372036854775807
  num : -9223372036854775808 ≤ x.n ∧ x.n ≤ 9223372036854775807

theorem OpOk.kept {W W' : World} {I F : Nat → Prop} {x : O9} (h : OpOk W I x) (hk : Kept F W W') (hF : ∀ k, I k → k < W.heap.size → ¬ F k) : OpOk W' I x :=
  ⟨h.src.kept hk hF, h.len, h.byte, h.nil, h.ints.kept hk hF, h.clen, h.rng, h.num⟩

def opC (x : O9) : Array Value := #[.int .i64 x.k, .string x.a, .string x.b, .slice x.da x.dn x.dc, .int .i64 x.n, .slice x.ca x.cn x.cc]

/-- The cells of a call at an address. -/
def OpAt (W : World) (b o : Nat) (x : O9) : Prop :=
  W.cell? ⟨b, o, none⟩ = some (.int .i64 x.k) ∧ W.cell? ⟨b, o + 1, none⟩ = some (.string x.a) ∧ W.cell? ⟨b, o + 2, none⟩ = some (.string x.b) ∧ W.cell? ⟨b, o + 3, none⟩ = some (.slice x.da x.dn x.dc) ∧ W.cell? ⟨b, o + 4, none⟩ = some (.int .i64 x.n) ∧ W.cell? ⟨b, o + 5, none⟩ = some (.slice x.ca x.cn x.cc)

theorem OpAt.kept {W W' : World} {F : Nat → Prop} {b o : Nat} {x : O9} (h : OpAt W b o x) (hk : Kept F W W') (hF : ¬ F b) : OpAt W' b o x :=
  ⟨hk.cell h.1 hF, hk.cell h.2.1 hF, hk.cell h.2.2.1 hF, hk.cell h.2.2.2.1 hF, hk.cell h.2.2.2.2.1 hF, hk.cell h.2.2.2.2.2 hF⟩

/-- A script. -/
def Ops9 (W : World) (I : Nat → Prop) (a : Option Addr) (len : Nat) (O : Nat → O9) : Prop :=
  ∀ j, j < len → OpOk W I (O j) ∧ ∃ b o, a = some ⟨b, o, none⟩ ∧ I b ∧ OpAt W b (o + j * 6) (O j)

theorem Ops9.kept {W W' : World} {I F : Nat → Prop} {a : Option Addr} {len : Nat} {O : Nat → O9} (h : Ops9 W I a len O) (hk : Kept F W W') (hF : ∀ k, I k → k < W.heap.size → ¬ F k) : Ops9 W' I a len O := fun j hj => by
  obtain ⟨h1, b, o, h2, h3, h4⟩ := h j hj
  exact ⟨h1.kept hk hF, b, o, h2, h3, h4.kept hk (hF b h3 (World.block_lt_of_cell? W _ h4.1))⟩

theorem Ops9.mono {W : World} {I J : Nat → Prop} {a : Option Addr} {len : Nat} {O : Nat → O9} (h : Ops9 W I a len O) (hJ : ∀ k, I k → J k) : Ops9 W J a len O := fun j hj => by
  obtain ⟨h1, b, o, h2, h3, h4⟩ := h j hj
  exact ⟨⟨h1.src.mono hJ, h1.len, h1.byte, h1.nil, h1.ints.mono hJ, h1.clen, h1.rng, h1.num⟩, b, o, h2, hJ b h3, h4⟩

theorem wf9 {n : Int} (h : (Lit.int .i64 n).wf = true) : -9223372036854775808 ≤ n ∧ n ≤ 9223372036854775807 := by
  simp [Lit.wf, IntKind.min, IntKind.max, IntKind.signed, IntKind.bits] at h
  exact h

theorem ints9 {w : World} {a : Option Addr} {len cap : Nat} {zs : List Int} (h : IsRow .i64 w a len cap zs) : SrcE intV w (fun k => k < w.heap.size) (.slice a len cap) (zs.take len) ∧ (zs.take len).length = len ∧ ∀ c ∈ zs.take len, -9223372036854775808 ≤ c ∧ c ≤ 9223372036854775807 := by
  have hl := h.len_le
  have hlen : (zs.take len).length = len := by simp; omega
  refine ⟨⟨a, cap, by rw [hlen], ?_, fun hne => ?_⟩, hlen, fun c hc => ?_⟩
  · rw [hlen]
    rcases h with ⟨_, rfl, _, _⟩ | ⟨x, _, h1, _⟩
    · exact Nat.zero_le _
    · exact h1
  · have hpos : 0 < len := by
      rcases Nat.eq_zero_or_pos len with e | e
      · subst e; simp at hne
      · exact e
    obtain ⟨b, o, rfl, hc⟩ := h.at 0 hpos
    refine ⟨b, o, rfl, World.block_lt_of_cell? w _ hc, fun j hj => ?_⟩
    obtain ⟨b', o', e, hc'⟩ := h.at j (by omega)
    simp only [Option.some.injEq, Addr.mk.injEq, and_true] at e
    obtain ⟨rfl, rfl⟩ := e
    rw [hc']
    have hz : j < zs.length := by omega
    simp [intV, List.getD, hz]
  · have hc2 := List.mem_of_mem_take hc
    rcases h with ⟨_, _, _, rfl⟩ | ⟨x, _, _, _, _, _, hw⟩
    · cases hc2
    · exact wf9 (hw c hc2)

theorem nil9 {k : IntKind} {w : World} {a : Option Addr} {len cap : Nat} {zs : List Int} (h : IsRow k w a len cap zs) : ∀ n c, Value.slice a len cap = .slice none n c → n = 0 ∧ c = 0 := by
  intro n c e
  simp only [Value.slice.injEq] at e
  obtain ⟨rfl, rfl, rfl⟩ := e
  rcases h with ⟨_, h1, h2, _⟩ | ⟨x, h1, _⟩
  · exact ⟨h1, h2⟩
  · cases h1

theorem Try.cellsOp9 : Try.prog.cellsOf 36 = 6 := by kernel_rfl
theorem Try.cells9s : Try.prog.cellsOf 9 = 1 := by kernel_rfl
theorem Try.cells9i : Try.prog.cellsOf 3 = 1 := by kernel_rfl
theorem Try.cells9b : Try.prog.cellsOf 33 = 1 := by kernel_rfl
theorem Try.cells9c : Try.prog.cellsOf 34 = 1 := by kernel_rfl
theorem Try.cells9u : Try.prog.cellsOf 5 = 1 := by kernel_rfl

theorem add_zero9 (x : Addr) : x.add 0 = x := by unfold Addr.add; simp

theorem six9 {w : World} {base : Nat} {x : Addr} {cs : List Value} (h : w.cells? base x 6 = some cs) : ∃ u0 u1 u2 u3 u4 u5, cs = [u0, u1, u2, u3, u4, u5] ∧ w.cell? (x.add 0) = some u0 ∧ w.cell? (x.add 1) = some u1 ∧ w.cell? (x.add 2) = some u2 ∧ w.cell? (x.add 3) = some u3 ∧ w.cell? (x.add 4) = some u4 ∧ w.cell? (x.add 5) = some u5 := by
  obtain ⟨_, hl, hc⟩ := World.cells?_some h
  match cs, hl with
  | [u0, u1, u2, u3, u4, u5], _ => exact ⟨u0, u1, u2, u3, u4, u5, rfl, by simpa using hc 0 (by omega), by simpa using hc 1 (by omega), by simpa using hc 2 (by omega), by simpa using hc 3 (by omega), by simpa using hc 4 (by omega), by simpa using hc 5 (by omega)⟩

theorem ops9_of {H : Type} {enc : TypeId × Value → H} {W : World} {a : Option Addr} {len cap fuel : Nat} {x : DataW H × List MemPlace} (h : DataW.trod enc Try.prog W 0 (fun _ => true) true fuel 31 [.slice a len cap] = some x) :
    ∃ O : Nat → O9, Ops9 W (fun k => k < W.heap.size) a len O := by
  rcases open_slice Try.underlying31 h with ⟨hcs, _⟩ | ⟨x0, l, c, m, n, D, Pl, hcs, _, hl, _, hm, hxx, hx⟩
  · simp only [List.cons.injEq, Value.slice.injEq, and_true] at hcs
    obtain ⟨rfl, rfl, rfl⟩ := hcs
    exact ⟨fun _ => default, fun j hj => by omega⟩
  · simp only [List.cons.injEq, Value.slice.injEq, and_true] at hcs
    obtain ⟨rfl, rfl, rfl⟩ := hcs
    simp only [if_true] at hm
    subst hm
    rw [Try.cellsOp9] at hx
    refine choose_lt (α := O9) (p := fun j y => OpOk W (fun k => k < W.heap.size) y ∧ ∃ b o, some x0 = some ⟨b, o, none⟩ ∧ b < W.heap.size ∧ OpAt W b (o + j * 6) y) (fun j hj => ?_)
    obtain ⟨cs0, hc0, _⟩ := hx 0 (by omega)
    obtain ⟨u0, _, _, _, _, _, _, hu0, _⟩ := six9 hc0
    rw [Nat.zero_mul, add_zero9] at hu0
    obtain ⟨b, o, rfl⟩ : ∃ b o, x0 = ⟨b, o, none⟩ := ⟨x0.block, x0.off, spot_none hu0⟩
    obtain ⟨cs, hc, ht⟩ := hx j (by omega)
    obtain ⟨k0, k1, k2, k3, k4, k5, rfl, h0, h1, h2, h3, h4, h5⟩ := six9 hc
    obtain ⟨xs, n', _, _, _, hlen, hf⟩ := DataW.trod_struct Try.underlying36 ht
    match xs, hlen with
    | [y0, y1, y2, y3, y4, y5], _ =>
      have c1 := Try.cells9i
      have c2 := Try.cells9s
      have c3 := Try.cells9b
      have c4 := Try.cells9c
      have t0 : DataW.trod enc Try.prog W 0 (fun _ => true) true n' 3 [k0] = some y0 := by simpa [c1, c2, c3, c4] using hf 0 _ rfl
      have t1 : DataW.trod enc Try.prog W 0 (fun _ => true) true n' 9 [k1] = some y1 := by simpa [c1, c2, c3, c4] using hf 1 _ rfl
      have t2 : DataW.trod enc Try.prog W 0 (fun _ => true) true n' 9 [k2] = some y2 := by simpa [c1, c2, c3, c4] using hf 2 _ rfl
      have t3 : DataW.trod enc Try.prog W 0 (fun _ => true) true n' 33 [k3] = some y3 := by simpa [c1, c2, c3, c4] using hf 3 _ rfl
      have t4 : DataW.trod enc Try.prog W 0 (fun _ => true) true n' 3 [k4] = some y4 := by simpa [c1, c2, c3, c4] using hf 4 _ rfl
      have t5 : DataW.trod enc Try.prog W 0 (fun _ => true) true n' 34 [k5] = some y5 := by simpa [c1, c2, c3, c4] using hf 5 _ rfl
      obtain ⟨q0, e0, _, _⟩ := DataW.trod_int Try.underlying3 t0
      obtain ⟨q1, e1, _, _⟩ := DataW.trod_string Try.underlying9 t1
      obtain ⟨q2, e2, _, _⟩ := DataW.trod_string Try.underlying9 t2
      obtain ⟨q4, e4, _, w4⟩ := DataW.trod_int Try.underlying3 t4
      simp only [List.cons.injEq, and_true] at e0 e1 e2 e4
      subst e0 e1 e2 e4
      obtain ⟨a3, n3, c3', z3, rfl, w3⟩ : ∃ a len cap zs, k3 = .slice a len cap ∧ IsRow .u8 W a len cap zs := by
        rcases open_ints Try.underlying33 Try.underlying5 Try.cells9u t3 with ⟨hcs, _⟩ | ⟨x, l, c, zs, hcs, _, hl, hm, hz, _, hcell, hwz⟩
        · simp only [List.cons.injEq, and_true] at hcs
          exact ⟨none, 0, 0, [], hcs, .inl ⟨rfl, rfl, rfl, rfl⟩⟩
        · simp only [List.cons.injEq, and_true] at hcs
          exact ⟨_, _, _, zs, hcs, .inr ⟨_, rfl, hl, hm, by simpa using hz, hcell, hwz⟩⟩
      obtain ⟨a5, n5, c5', z5, rfl, w5⟩ : ∃ a len cap zs, k5 = .slice a len cap ∧ IsRow .i64 W a len cap zs := by
        rcases open_ints Try.underlying34 Try.underlying3 Try.cells9i t5 with ⟨hcs, _⟩ | ⟨x, l, c, zs, hcs, _, hl, hm, hz, _, hcell, hwz⟩
        · simp only [List.cons.injEq, and_true] at hcs
          exact ⟨none, 0, 0, [], hcs, .inl ⟨rfl, rfl, rfl, rfl⟩⟩
        · simp only [List.cons.injEq, and_true] at hcs
          exact ⟨_, _, _, zs, hcs, .inr ⟨_, rfl, hl, hm, by simpa using hz, hcell, hwz⟩⟩
      obtain ⟨bs, hs, hbl, hb⟩ := w3.src
      have hi := ints9 w5
      rw [add_zero9, addAt] at h0
      rw [addAt, addAt] at h1 h2 h3 h4 h5
      refine ⟨⟨q0, q1, q2, a3, n3, c3', bs, q4, a5, n5, c5', z5.take n5⟩, ⟨hs, hbl, hb, nil9 w3, hi.1, hi.2.1, hi.2.2, wf9 w4⟩, b, o, rfl, World.block_lt_of_cell? W _ h0, h0, h1, h2, h3, h4, h5⟩

end Go.Proofs.Ytkceahdpcdfckaa

/-
  Layer 9's law: large.
-/
namespace Go.Proofs.Ytkceahdpcdfckaa
open Go.RowKit Go.Maps

/-- A call is not too large. -/
def OpSm (x : O9) : Prop := x.dn ≤ 65536 ∧ x.cn ≤ 1000 ∧ x.a.size ≤ 65536 ∧ x.b.size ≤ 65536

/-- What large tells. -/
def LrgA (w : World) (len : Nat) (O : Nat → O9) (e : Ending) (w' : World) : Prop := ∃ r : Bool, e = .returned (.bool r) ∧ (r = false → len ≤ 1000 ∧ ∀ j, j < len → OpSm (O j)) ∧ Same w w'

set_option maxRecDepth 100000 in
set_option maxHeartbeats 1000000 in
theorem dlarge_any (w : World) (I : Nat → Prop) (a : Option Addr) (len cap : Nat) (O : Nat → O9) (h : Ops9 w I a len O) :
    Calls Try.prog 12 #[.slice a len cap] w fun e w' => LrgA w len O e w' := by
  have HO : Hid (Ops9 w I a len O) := h
  clear h
  by_cases hl : 1000 < len
  · have b1 : decide ((1000 : Int) < (len : Int)) = true := by simp; omega
    have b1' : decide (1000 < len) = true := by simp; omega
    clear hl
    go_enter Try.func12, Try.ntmps12
    go_wp2_with fail
    go_ret
    exact ⟨true, rfl, fun h => (by cases h), Kept.refl _ _⟩
  · have b1 : decide ((1000 : Int) < (len : Int)) = false := by simp; omega
    have b1' : decide (1000 < len) = false := by simp; omega
    have HL : Hid (len ≤ 1000) := hid (by omega)
    clear hl
    go_enter Try.func12, Try.ntmps12
    go_wp2_with fail
    go_loopg [3] len (fun qq z wr => ∃ i : Nat, z = .int .i64 (i : Nat) ∧ i ≤ len ∧ len - i ≤ qq ∧ Hid (Same w wr ∧ ∀ j, j < i → OpSm (O j)))
    case atStart => exact ⟨0, rfl, by omega, by omega, hid ⟨Kept.refl _ _, fun j hj => by omega⟩⟩
    case round =>
      obtain ⟨i, rfl, hi, hiq, HI⟩ := hrel
      by_cases hlt : i < len
      · have c1 : decide (i < len) = true := by simp; omega
        obtain ⟨_, b, o, ha, _, hat⟩ := HO.out i hlt
        subst ha
        have hat := hat.kept HI.out.1 (fun f => f)
        obtain ⟨x, hx⟩ : ∃ x, x = O i := ⟨_, rfl⟩
        rw [← hx] at hat
        have HX : Hid (x = O i ∧ i < len) := hid ⟨hx, hlt⟩
        obtain ⟨k, ta, tb, da, dn, dc, bs, n, ca, cn, cc, cs⟩ := x
        obtain ⟨k0, k1, k2, k3, k4, k5⟩ := hat
        dsimp only at k0 k1 k2 k3 k4 k5
        have i1 : (0 : Int) ≤ (i : Int) := by omega
        have i2 : (i : Int) < (len : Int) := by omega
        have hiw : IntKind.i64.wrap ((i : Int) + 1) = ((i + 1 : Nat) : Int) := by rw [IntKind.wrap_i64]; have := HL.out; omega
        obtain ⟨wA, hwA⟩ : ∃ W, W = wr.alloc (.cells #[.int .i64 k, .string ta, .string tb, .slice da dn dc, .int .i64 n, .slice ca cn cc] 36) := ⟨_, rfl⟩
        obtain ⟨xb, hxb⟩ : ∃ b, b = wr.heap.size := ⟨_, rfl⟩
        have BA : Blk wA xb #[.int .i64 k, .string ta, .string tb, .slice da dn dc, .int .i64 n, .slice ca cn cc] 36 := by rw [hwA, hxb]; exact Blk.new wr _ _
        have q1 : wA.cell? ⟨xb, 1, none⟩ = some (.string ta) := BA.cell 1
        have q2 : wA.cell? ⟨xb, 2, none⟩ = some (.string tb) := BA.cell 2
        have q3 : wA.cell? ⟨xb, 3, none⟩ = some (.slice da dn dc) := BA.cell 3
        have q5 : wA.cell? ⟨xb, 5, none⟩ = some (.slice ca cn cc) := BA.cell 5
        have HKA : Hid (Same w wA) := hid (Same.trans HI.out.1 (by rw [hwA]; exact (Kept.refl _ wr).alloc _))
        clear BA hx hlt
        go_upto_region 7 with fail
        rw [← hwA, ← hxb]
        clear hwA hxb k0 k1 k2 k3 k4 k5
        by_cases g1 : 65536 < dn
        · have e1 : decide ((65536 : Int) < (dn : Int)) = true := by simp; omega
          have e1' : decide (65536 < dn) = true := by simp; omega
          clear g1
          go_wp2_with fail
          go_ret
          exact ⟨true, rfl, fun h => (by cases h), HKA.out⟩
        · have e1 : decide ((65536 : Int) < (dn : Int)) = false := by simp; omega
          have e1' : decide (65536 < dn) = false := by simp; omega
          have G1 := hid g1
          clear g1
          by_cases g2 : 1000 < cn
          · have e2 : decide ((1000 : Int) < (cn : Int)) = true := by simp; omega
            have e2' : decide (1000 < cn) = true := by simp; omega
            clear g2
            go_wp2_with fail
            go_ret
            exact ⟨true, rfl, fun h => (by cases h), HKA.out⟩
          · have e2 : decide ((1000 : Int) < (cn : Int)) = false := by simp; omega
            have e2' : decide (1000 < cn) = false := by simp; omega
            have G2 := hid g2
            clear g2
            by_cases g3 : 65536 < ta.size
            · have e3 : decide ((65536 : Int) < (ta.size : Int)) = true := by simp; omega
              have e3' : decide (65536 < ta.size) = true := by simp; omega
              clear g3
              go_wp2_with fail
              go_ret
              exact ⟨true, rfl, fun h => (by cases h), HKA.out⟩
            · have e3 : decide ((65536 : Int) < (ta.size : Int)) = false := by simp; omega
              have e3' : decide (65536 < ta.size) = false := by simp; omega
              have G3 := hid g3
              clear g3
              by_cases g4 : 65536 < tb.size
              · have e4 : decide ((65536 : Int) < (tb.size : Int)) = true := by simp; omega
                have e4' : decide (65536 < tb.size) = true := by simp; omega
                clear g4
                go_wp2_with fail
                go_ret
                exact ⟨true, rfl, fun h => (by cases h), HKA.out⟩
              · have e4 : decide ((65536 : Int) < (tb.size : Int)) = false := by simp; omega
                have e4' : decide (65536 < tb.size) = false := by simp; omega
                have HS : Hid (∀ j, j < i + 1 → OpSm (O j)) := hid (fun j hj => by
                  by_cases e : j = i
                  · rw [e, ← HX.out.1]
                    have h1 := G1.out
                    have h2 := G2.out
                    have h3 := G3.out
                    exact ⟨by show dn ≤ _; omega, by show cn ≤ _; omega, by show ta.size ≤ _; omega, by show tb.size ≤ _; omega⟩
                  · exact HI.out.2 j (by omega))
                clear g4
                go_wp2_with fail
                go_roundg (gk - 1)
                case measure => have := HX.out; omega
                case rel => exact ⟨i + 1, by go_num, by have := HX.out; omega, by have := HX.out; omega, hid ⟨HKA.out, HS.out⟩⟩
      · have c1 : decide (i < len) = false := by simp; omega
        have hE : i = len := by omega
        subst hE
        go_wp2_with fail
        go_ret
        exact ⟨false, rfl, fun _ => ⟨HL.out, HI.out.2⟩, HI.out.1⟩

end Go.Proofs.Ytkceahdpcdfckaa

/-
  Layer 9's law: play.
-/
namespace Go.Proofs.Ytkceahdpcdfckaa
open Go.RowKit Go.Maps

/-- What is left of a disk by a call. -/
def orS (s : Ds) : Except Nat Ds → Ds
  | .ok s' => s'
  | .error _ => s

/-- A disk's state behind a call of a script. -/
def opS (s : Ds) (o : O9) (f : Nat) : Ds :=
  if o.k = 1 then orS s (creS s o.a f) else if o.k = 2 then orS s (appS s o.a o.bs) else if o.k = 3 then orS s (synS s o.a) else if o.k = 4 then orS s (renS s o.a o.b) else if o.k = 5 then orS s (remS s o.a) else if o.k = 6 then orS s (sydS s) else if o.k = 8 then orS s (stpS s o.n) else if o.k = 9 then craS s o.cs else s

/-- Calls one behind the other; a new file is none of those that there are. -/
inductive PlyS : Ds → List O9 → Ds → Prop
  | nil (s : Ds) : PlyS s [] s
  | snoc {s s1 : Ds} {os : List O9} (o : O9) (f : Nat) : PlyS s os s1 → ¬ refd s1 f → PlyS s (os ++ [o]) (opS s1 o f)

theorem StpX.or {N : Nat} {w : World} {d : Nat} {s : Ds} {ρ : Rho} {r : Except Nat Ds} {e : Ending} {w' : World} (h : StpX N w d ρ r e w') (hd : DkX N w d s ρ) :
    ∃ (v : Nat) (ρ' : Rho), e = .returned (.int .i64 (v : Nat)) ∧ DkX N w' d (orS s r) ρ' ∧ MoR w ρ ρ' ∧ Kept (fun k => ρ k ≠ 0) w w' := by
  cases r with
  | error k =>
    obtain ⟨rfl, h2⟩ := h.1 k rfl
    exact ⟨k, ρ, rfl, hd.same h2, MoR.refl _ _, h2.mono (fun _ _ f => f.elim)⟩
  | ok s' =>
    obtain ⟨rfl, ρ', h2, h3, h4⟩ := h.2 s' rfl
    exact ⟨0, ρ', rfl, h2, h3, h4⟩

theorem DkX.refd {N : Nat} {w : World} {d : Nat} {s : Ds} {ρ : Rho} (h : DkX N w d s ρ) {f : Nat} (hf : Go.Proofs.Ytkceahdpcdfckaa.refd s f) : ρ f = 5 := by
  obtain ⟨nb, sb, cv, h⟩ := h
  rcases hf with ⟨p, h1, rfl⟩ | ⟨p, h1, rfl⟩ | ⟨c, h1, rfl⟩
  · exact h.nmf p h1
  · exact h.sff p h1
  · exact h.chf c h1

theorem DkX.fresh {N : Nat} {w : World} {d : Nat} {s : Ds} {ρ : Rho} (h : DkX N w d s ρ) : ¬ Go.Proofs.Ytkceahdpcdfckaa.refd s w.heap.size := fun hf => by
  have := (h.new _ (by rw [h.refd hf]; decide)).2
  omega

theorem steps_step (s : Ds) : (stepS s).steps = s.steps + 1 := rfl

theorem opS_steps (s : Ds) (o : O9) (f : Nat) : (opS s o f).steps ≤ s.steps + 1 := by
  have hor : ∀ r : Except Nat Ds, (∀ s', r = .ok s' → s'.steps ≤ s.steps + 1) → (orS s r).steps ≤ s.steps + 1 := fun r h => by
    cases r with
    | error k => exact Nat.le_succ _
    | ok s' => exact h s' rfl
  unfold opS
  split
  · refine hor _ (fun s' e => ?_)
    unfold creS at e
    repeat' split at e
    all_goals cases e
    exact Nat.le_refl _
  split
  · refine hor _ (fun s' e => ?_)
    unfold appS at e
    repeat' split at e
    all_goals cases e
    exact Nat.le_refl _
  split
  · refine hor _ (fun s' e => ?_)
    unfold synS at e
    repeat' split at e
    all_goals cases e
    exact Nat.le_refl _
  split
  · refine hor _ (fun s' e => ?_)
    unfold renS at e
    repeat' split at e
    all_goals cases e
    exact Nat.le_refl _
  split
  · refine hor _ (fun s' e => ?_)
    unfold remS at e
    repeat' split at e
    all_goals cases e
    exact Nat.le_refl _
  split
  · refine hor _ (fun s' e => ?_)
    unfold sydS at e
    repeat' split at e
    all_goals cases e
    exact Nat.le_refl _
  split
  · refine hor _ (fun s' e => ?_)
    unfold stpS at e
    repeat' split at e
    all_goals cases e
    exact Nat.le_succ _
  split
  · exact Nat.le_succ _
  · exact Nat.le_succ _

/-- What play leaves. -/
def PlyA (N : Nat) (w : World) (d : Nat) (s : Ds) (ρ : Rho) (os : List O9) (e : Ending) (w' : World) : Prop :=
  e = .returned (.tuple #[]) ∧ ∃ s' ρ', DkX N w' d s' ρ' ∧ PlyS s os s' ∧ s'.steps ≤ s.steps + os.length ∧ MoR w ρ ρ' ∧ Kept (fun k => ρ k ≠ 0) w w'

set_option maxRecDepth 100000 in
set_option maxHeartbeats 2000000 in
theorem dplay_any {N : Nat} {w : World} {d : Nat} {s : Ds} {ρ : Rho} (h : DkX N w d s ρ) (hst : s.steps ≤ 900000) (hN : N ≤ w.heap.size) (I : Nat → Prop) (a : Option Addr) (len cap : Nat) (O : Nat → O9) (ho : Ops9 w I a len O) (hI : ∀ k, I k → ρ k = 0) (hsm : ∀ j, j < len → OpSm (O j)) (hl : len ≤ 1000) :
    Calls Try.prog 16 #[.pointer (some ⟨d, 0, none⟩), .slice a len cap] w fun e w' => PlyA N w d s ρ ((List.range len).map O) e w' := by
  have HO : Hid (Ops9 w (fun k => I k ∧ k < w.heap.size) a len O) := hid (fun j hj => by
    obtain ⟨h1, b, o, h2, h3, h4⟩ := ho j hj
    refine ⟨⟨?_, h1.len, h1.byte, h1.nil, h1.ints.low, h1.clen, h1.rng, h1.num⟩, b, o, h2, ⟨h3, World.block_lt_of_cell? w _ h4.1⟩, h4⟩
    obtain ⟨ao, cp, e, hc⟩ := h1.src
    refine ⟨ao, cp, e, fun hne => ?_⟩
    obtain ⟨b, o, h2, h3, h4⟩ := hc hne
    refine ⟨b, o, h2, ⟨h3, ?_⟩, h4⟩
    exact World.block_lt_of_cell? w _ (h4 0 (List.length_pos_iff.2 hne)))
  have HD : Hid (DkX N w d s ρ) := h
  have HQ : Hid (s.steps ≤ 900000 ∧ N ≤ w.heap.size ∧ (∀ k, I k → ρ k = 0) ∧ (∀ j, j < len → OpSm (O j)) ∧ len ≤ 1000) := hid ⟨hst, hN, hI, hsm, hl⟩
  clear h hst hN ho hI hsm hl
  go_enter Try.func16, Try.ntmps16
  go_wp2_with fail
  go_loopg [4] len (fun qq z wr => ∃ (i : Nat) (s1 : Ds) (ρ1 : Rho), z = .int .i64 (i : Nat) ∧ i ≤ len ∧ len - i ≤ qq ∧ Hid (DkX N wr d s1 ρ1 ∧ PlyS s ((List.range i).map O) s1 ∧ s1.steps ≤ s.steps + i ∧ MoR w ρ ρ1 ∧ Kept (fun k => ρ k ≠ 0) w wr))
  case atStart => exact ⟨0, s, ρ, rfl, by omega, by omega, hid ⟨HD.out, PlyS.nil s, Nat.le_refl _, MoR.refl _ _, Kept.refl _ _⟩⟩
  case round =>
    obtain ⟨i, s1, ρ1, rfl, hi, hiq, HI⟩ := hrel
    by_cases hlt : i < len
    · have c1 : decide (i < len) = true := by simp; omega
      have hq := HQ.out
      obtain ⟨hok, b, o, ha, hib, hat⟩ := HO.out i hlt
      subst ha
      have hat := hat.kept HI.out.2.2.2.2 (fun f => f (hq.2.2.1 b hib.1))
      obtain ⟨x, hx⟩ : ∃ x, x = O i := ⟨_, rfl⟩
      have hsm := hq.2.2.2.1 i hlt
      rw [← hx] at hat hok hsm
      have i1 : (0 : Int) ≤ (i : Int) := by omega
      have i2 : (i : Int) < (len : Int) := by omega
      have hiw : IntKind.i64.wrap ((i : Int) + 1) = ((i + 1 : Nat) : Int) := by rw [IntKind.wrap_i64]; omega
      obtain ⟨k0, k1, k2, k3, k4, k5⟩ := hat
      obtain ⟨wA, hwA⟩ : ∃ W, W = wr.alloc (.cells #[.int .i64 x.k, .string x.a, .string x.b, .slice x.da x.dn x.dc, .int .i64 x.n, .slice x.ca x.cn x.cc] 36) := ⟨_, rfl⟩
      obtain ⟨xb, hxb⟩ : ∃ b, b = wr.heap.size := ⟨_, rfl⟩
      have BA : Blk wA xb #[.int .i64 x.k, .string x.a, .string x.b, .slice x.da x.dn x.dc, .int .i64 x.n, .slice x.ca x.cn x.cc] 36 := by rw [hwA, hxb]; exact Blk.new wr _ _
      have q0 : wA.cell? ⟨xb, 0, none⟩ = some (.int .i64 x.k) := BA.cell 0
      have q1 : wA.cell? ⟨xb, 1, none⟩ = some (.string x.a) := BA.cell 1
      have q2 : wA.cell? ⟨xb, 2, none⟩ = some (.string x.b) := BA.cell 2
      have q3 : wA.cell? ⟨xb, 3, none⟩ = some (.slice x.da x.dn x.dc) := BA.cell 3
      have q4 : wA.cell? ⟨xb, 4, none⟩ = some (.int .i64 x.n) := BA.cell 4
      have q5 : wA.cell? ⟨xb, 5, none⟩ = some (.slice x.ca x.cn x.cc) := BA.cell 5
      have kA : Same wr wA := by rw [hwA]; exact (Kept.refl _ wr).alloc _
      have DA : DkX N wA d s1 ρ1 := HI.out.1.same kA
      have hzero : ∀ k, (I k ∧ k < w.heap.size) → ρ1 k = 0 := fun k hk => by
        rcases HI.out.2.2.2.1 k with h9 | h9 | h9
        · exact h9
        · rw [h9]; exact hq.2.2.1 k hk.1
        · omega
      have hokA : OpOk wA (fun k => I k ∧ k < w.heap.size) x := (hok.kept HI.out.2.2.2.2 (fun k hk _ f => f (hq.2.2.1 k hk.1))).kept kA (fun _ _ _ f => f)
      have hNA : N ≤ wA.heap.size := Nat.le_trans hq.2.1 (Nat.le_trans HI.out.2.2.2.2.size kA.size)
      have hs1 : s1.steps ≤ 1000000 := by have := HI.out.2.2.1; omega
      have HX : Hid (x = O i ∧ i < len) := hid ⟨hx, hlt⟩
      have HDA : Hid (DkX N wA d s1 ρ1) := DA
      have HKA : Hid (Same wr wA) := kA
      have hta : x.a.size ≤ 100000 := Nat.le_trans hsm.2.2.1 (by decide)
      have htb : x.b.size ≤ 100000 := Nat.le_trans hsm.2.2.2 (by decide)
      have HCre := xcreate DA hs1 hNA x.a hta
      have HApp := xappend DA hs1 x.a hta _ _ x.bs hokA.src hokA.nil (by rw [hokA.len]; exact Nat.le_trans hsm.1 (by decide)) (fun k hk _ => hzero k hk) hokA.byte hNA
      have HSyn := xsync DA hs1 x.a hta
      have HRen := xrename DA hs1 hNA x.a x.b hta htb
      have HRem := xremove DA hs1 hNA x.a hta
      have HSyd := xsyncdir DA hs1 hNA
      have HStp := xstop DA x.n hokA.num.2
      have HCra := xcrash DA hs1 hNA _ _ x.cs hokA.ints hokA.rng (fun k hk _ => hzero k hk)
      have HFR : Hid (∀ f s2 ρ2 w2, ¬ refd s1 f → s2 = opS s1 x f → DkX N w2 d s2 ρ2 → MoR wA ρ1 ρ2 → Kept (fun k => ρ1 k ≠ 0) wA w2 → DkX N w2 d s2 ρ2 ∧ PlyS s ((List.range (i + 1)).map O) s2 ∧ s2.steps ≤ s.steps + (i + 1) ∧ MoR w ρ ρ2 ∧ Kept (fun k => ρ k ≠ 0) w w2) := hid (fun f s2 ρ2 w2 hf e hd hm hk => by
        have hi := HI.out
        refine ⟨hd, ?_, ?_, ?_, ?_⟩
        · rw [List.range_succ, List.map_append, e, hx]
          exact PlyS.snoc (O i) f hi.2.1 hf
        · rw [e]
          have h1 := opS_steps s1 x f
          have h2 := hi.2.2.1
          omega
        · have hm2 : MoR wr ρ1 ρ2 := fun k => by
            rcases hm k with h9 | h9 | h9
            · exact .inl h9
            · exact .inr (.inl h9)
            · exact .inr (.inr (Nat.le_trans kA.size h9))
          exact hi.2.2.2.1.trans hm2 hi.2.2.2.2.size
        · refine Kept.trans hi.2.2.2.2 (Kept.trans kA hk (H := fun k => ρ1 k ≠ 0) (fun _ _ f => f.elim) (fun _ _ e => e)) (fun _ _ e => e) (fun k hk2 h0 => ?_)
          rcases hi.2.2.2.1 k with h9 | h9 | h9
          · exact absurd h9 h0
          · rw [← h9]; exact h0
          · omega)
      clear hat hok hsm hq hib hx hlt kA DA hzero hokA hNA hs1 BA
      obtain ⟨k, ta, tb, da, dn, dc, bs, n, ca, cn, cc, cs⟩ := x
      dsimp only at k0 k1 k2 k3 k4 k5 q0 q1 q2 q3 q4 q5 hta htb HCre HApp HSyn HRen HRem HSyd HStp HCra
      go_upto_region 5 with fail
      rw [← hwA, ← hxb]
      clear hwA hxb k0 k1 k2 k3 k4 k5
      by_cases e1 : k = 1
      · subst e1
        clear HApp HSyn HRen HRem HSyd HStp HCra
        go_wp2_with fail
        refine HCre.mono ?_
        rintro e w2 hst2
        obtain ⟨v, ρ2, rfl, hd2, hm2, hk2⟩ := hst2.or HDA.out
        have HF := hid (HFR.out wA.heap.size _ ρ2 w2 HDA.out.fresh rfl (by exact hd2) hm2 hk2)
        clear hst2 hd2 hm2 hk2 HCre
        go_wp2_with fail
        go_roundg (gk - 1)
        case measure => have := HX.out; omega
        case rel => exact ⟨i + 1, _, ρ2, by go_num, by have := HX.out; omega, by have := HX.out; omega, HF⟩
      have f1 : (k == 1) = false := by simp [e1]
      by_cases e2 : k = 2
      · subst e2
        clear HCre HSyn HRen HRem HSyd HStp HCra
        go_wp2_with fail
        refine HApp.mono ?_
        rintro e w2 hst2
        obtain ⟨v, ρ2, rfl, hd2, hm2, hk2⟩ := hst2.or HDA.out
        have HF := hid (HFR.out wA.heap.size _ ρ2 w2 HDA.out.fresh rfl (by exact hd2) hm2 hk2)
        clear hst2 hd2 hm2 hk2 HApp
        go_wp2_with fail
        go_roundg (gk - 1)
        case measure => have := HX.out; omega
        case rel => exact ⟨i + 1, _, ρ2, by go_num, by have := HX.out; omega, by have := HX.out; omega, HF⟩
      have f2 : (k == 2) = false := by simp [e2]
      by_cases e3 : k = 3
      · subst e3
        clear HCre HApp HRen HRem HSyd HStp HCra
        go_wp2_with fail
        refine HSyn.mono ?_
        rintro e w2 hst2
        obtain ⟨v, ρ2, rfl, hd2, hm2, hk2⟩ := hst2.or HDA.out
        have HF := hid (HFR.out wA.heap.size _ ρ2 w2 HDA.out.fresh rfl (by exact hd2) hm2 hk2)
        clear hst2 hd2 hm2 hk2 HSyn
        go_wp2_with fail
        go_roundg (gk - 1)
        case measure => have := HX.out; omega
        case rel => exact ⟨i + 1, _, ρ2, by go_num, by have := HX.out; omega, by have := HX.out; omega, HF⟩
      have f3 : (k == 3) = false := by simp [e3]
      by_cases e4 : k = 4
      · subst e4
        clear HCre HApp HSyn HRem HSyd HStp HCra
        go_wp2_with fail
        refine HRen.mono ?_
        rintro e w2 hst2
        obtain ⟨v, ρ2, rfl, hd2, hm2, hk2⟩ := hst2.or HDA.out
        have HF := hid (HFR.out wA.heap.size _ ρ2 w2 HDA.out.fresh rfl (by exact hd2) hm2 hk2)
        clear hst2 hd2 hm2 hk2 HRen
        go_wp2_with fail
        go_roundg (gk - 1)
        case measure => have := HX.out; omega
        case rel => exact ⟨i + 1, _, ρ2, by go_num, by have := HX.out; omega, by have := HX.out; omega, HF⟩
      have f4 : (k == 4) = false := by simp [e4]
      by_cases e5 : k = 5
      · subst e5
        clear HCre HApp HSyn HRen HSyd HStp HCra
        go_wp2_with fail
        refine HRem.mono ?_
        rintro e w2 hst2
        obtain ⟨v, ρ2, rfl, hd2, hm2, hk2⟩ := hst2.or HDA.out
        have HF := hid (HFR.out wA.heap.size _ ρ2 w2 HDA.out.fresh rfl (by exact hd2) hm2 hk2)
        clear hst2 hd2 hm2 hk2 HRem
        go_wp2_with fail
        go_roundg (gk - 1)
        case measure => have := HX.out; omega
        case rel => exact ⟨i + 1, _, ρ2, by go_num, by have := HX.out; omega, by have := HX.out; omega, HF⟩
      have f5 : (k == 5) = false := by simp [e5]
      by_cases e6 : k = 6
      · subst e6
        clear HCre HApp HSyn HRen HRem HStp HCra
        go_wp2_with fail
        refine HSyd.mono ?_
        rintro e w2 hst2
        obtain ⟨v, ρ2, rfl, hd2, hm2, hk2⟩ := hst2.or HDA.out
        have HF := hid (HFR.out wA.heap.size _ ρ2 w2 HDA.out.fresh rfl (by exact hd2) hm2 hk2)
        clear hst2 hd2 hm2 hk2 HSyd
        go_wp2_with fail
        go_roundg (gk - 1)
        case measure => have := HX.out; omega
        case rel => exact ⟨i + 1, _, ρ2, by go_num, by have := HX.out; omega, by have := HX.out; omega, HF⟩
      have f6 : (k == 6) = false := by simp [e6]
      by_cases e8 : k = 8
      · subst e8
        clear HCre HApp HSyn HRen HRem HSyd HCra
        go_wp2_with fail
        refine HStp.mono ?_
        rintro e w2 hst2
        obtain ⟨v, ρ2, rfl, hd2, hm2, hk2⟩ := hst2.or HDA.out
        have HF := hid (HFR.out wA.heap.size _ ρ2 w2 HDA.out.fresh rfl (by exact hd2) hm2 hk2)
        clear hst2 hd2 hm2 hk2 HStp
        go_wp2_with fail
        go_roundg (gk - 1)
        case measure => have := HX.out; omega
        case rel => exact ⟨i + 1, _, ρ2, by go_num, by have := HX.out; omega, by have := HX.out; omega, HF⟩
      have f8 : (k == 8) = false := by simp [e8]
      by_cases e9 : k = 9
      · subst e9
        clear HCre HApp HSyn HRen HRem HSyd HStp
        go_wp2_with fail
        refine HCra.mono ?_
        rintro e w2 ⟨_, hok2⟩
        obtain ⟨rfl, ρ2, hd2, hm2, hk2⟩ := hok2 _ rfl
        have HF := hid (HFR.out wA.heap.size _ ρ2 w2 HDA.out.fresh rfl (by exact hd2) hm2 hk2)
        clear hok2 hd2 hm2 hk2 HCra
        go_wp2_with fail
        go_roundg (gk - 1)
        case measure => have := HX.out; omega
        case rel => exact ⟨i + 1, _, ρ2, by go_num, by have := HX.out; omega, by have := HX.out; omega, HF⟩
      have f9 : (k == 9) = false := by simp [e9]
      clear HCre HApp HSyn HRen HRem HSyd HStp HCra
      have HF := hid (HFR.out wA.heap.size _ ρ1 wA HDA.out.fresh rfl (by
        show DkX N wA d (opS s1 ⟨k, ta, tb, da, dn, dc, bs, n, ca, cn, cc, cs⟩ wA.heap.size) ρ1
        unfold opS
        dsimp only
        rw [if_neg e1, if_neg e2, if_neg e3, if_neg e4, if_neg e5, if_neg e6, if_neg e8, if_neg e9]
        exact HDA.out) (MoR.refl _ _) (Kept.refl _ _))
      clear e1 e2 e3 e4 e5 e6 e8 e9
      go_wp2_with fail
      go_roundg (gk - 1)
      case measure => have := HX.out; omega
      case rel => exact ⟨i + 1, _, ρ1, by go_num, by have := HX.out; omega, by have := HX.out; omega, HF⟩
    · have c1 : decide (i < len) = false := by simp; omega
      have hE : i = len := by omega
      subst hE
      go_wp2_with fail
      go_end0
      exact ⟨rfl, s1, ρ1, HI.out.1, HI.out.2.1, by rw [List.length_map, List.length_range]; exact HI.out.2.2.1, HI.out.2.2.2⟩

end Go.Proofs.Ytkceahdpcdfckaa

/-
  Layer 9: two disks that tell the same.
-/
namespace Go.Proofs.Ytkceahdpcdfckaa
open Go.RowKit Go.Maps

/-- A file that a name has, had when it was safe, or may get by a change. -/
def lvd (s : Ds) (f : Nat) : Prop := (∃ p ∈ s.names, p.2 = f) ∨ (∃ p ∈ s.safe, p.2 = f) ∨ ∃ c ∈ s.chg, c.dst.size ≠ 0 ∧ c.f = f

theorem lvd.refd {s : Ds} {f : Nat} (h : lvd s f) : refd s f := by
  rcases h with h | h | ⟨c, h1, _, h2⟩
  · exact .inl h
  · exact .inr (.inl h)
  · exact .inr (.inr ⟨c, h1, h2⟩)

/-- What counts of a change. -/
def nrm (φ : Nat → Nat) (c : Chg) : ByteArray × ByteArray × Option Nat := (c.src, c.dst, if c.dst.size = 0 then none else some (φ c.f))

/-- Two disks whose files answer one another. -/
structure SimD (φ : Nat → Nat) (s r : Ds) : Prop where
  room : s.room = r.room
  steps : s.steps = r.steps
  names : s.names = mapF φ r.names
  safe : s.safe = mapF φ r.safe
  chg : s.chg.map (nrm id) = r.chg.map (nrm φ)
  fl : ∀ k, lvd r k → s.fl (φ k) = r.fl k
  inj : ∀ j k, lvd r j → lvd r k → φ j = φ k → j = k

theorem getN_mapF (φ : Nat → Nat) (t : ByteArray) (L : Nms) : getN t (mapF φ L) = (getN t L).map φ := by
  unfold getN mapF
  rw [List.find?_map]
  cases h : L.find? (fun p => decide (p.1 = t)) with
  | none =>
    have : L.find? ((fun p : ByteArray × Nat => decide (p.1 = t)) ∘ fun p => (p.1, φ p.2)) = none := h
    rw [this]; rfl
  | some p =>
    have : L.find? ((fun p : ByteArray × Nat => decide (p.1 = t)) ∘ fun p => (p.1, φ p.2)) = some p := h
    rw [this]; rfl

theorem delN_mapF (φ : Nat → Nat) (t : ByteArray) (L : Nms) : delN t (mapF φ L) = mapF φ (delN t L) := by
  unfold delN mapF
  rw [List.filter_map]
  rfl

theorem insN_mapF (φ : Nat → Nat) (t : ByteArray) (f : Nat) (L : Nms) : insN (t, φ f) (mapF φ L) = mapF φ (insN (t, f) L) := by
  induction L with
  | nil => rfl
  | cons p L ih =>
    show insN (t, φ f) ((p.1, φ p.2) :: mapF φ L) = mapF φ (insN (t, f) (p :: L))
    rw [insN, insN]
    split
    · rfl
    · rw [ih]; rfl

theorem putN_mapF (φ : Nat → Nat) (t : ByteArray) (f : Nat) (L : Nms) : putN t (φ f) (mapF φ L) = mapF φ (putN t f L) := by
  unfold putN
  rw [delN_mapF, insN_mapF]

theorem appN_mapF {φ : Nat → Nat} {c c' : Chg} (h : nrm id c = nrm φ c') (L : Nms) : appN c (mapF φ L) = mapF φ (appN c' L) := by
  unfold nrm at h
  simp only [Prod.mk.injEq] at h
  obtain ⟨h1, h2, h3⟩ := h
  unfold appN
  rw [h1, h2]
  by_cases h0 : c'.dst.size = 0
  · rw [if_pos h0, if_pos h0, delN_mapF]
  · rw [if_neg h0, if_neg h0]
    rw [h2, if_neg h0, if_neg h0] at h3
    simp only [Option.some.injEq, id] at h3
    rw [h3, delN_mapF, putN_mapF]

theorem mapF_len (φ : Nat → Nat) (L : Nms) : (mapF φ L).length = L.length := List.length_map _
theorem mapF_keys (φ : Nat → Nat) (L : Nms) : (mapF φ L).map (·.1) = L.map (·.1) := by unfold mapF; rw [List.map_map]; rfl
theorem mapF_congr {φ ψ : Nat → Nat} {L : Nms} (h : ∀ p ∈ L, φ p.2 = ψ p.2) : mapF φ L = mapF ψ L := List.map_congr_left (fun p hp => by rw [h p hp])

theorem usedN_congr {φ : Nat → Nat} {s r : Ds} (h : s.names = mapF φ r.names) (hf : ∀ p ∈ r.names, s.fl (φ p.2) = r.fl p.2) : usedN s = usedN r := by
  unfold usedN
  rw [h]
  unfold mapF
  rw [List.map_map]
  congr 1
  refine List.map_congr_left (fun p hp => ?_)
  show (s.fl (φ p.2)).bs.length = (r.fl p.2).bs.length
  rw [hf p hp]

section
variable {φ : Nat → Nat} {s r : Ds}

theorem SimD.used (h : SimD φ s r) : usedN s = usedN r := usedN_congr h.names (fun p hp => h.fl _ (.inl ⟨p, hp, rfl⟩))

theorem SimD.chgLen (h : SimD φ s r) : s.chg.length = r.chg.length := by
  have := congrArg List.length h.chg
  rwa [List.length_map, List.length_map] at this

theorem SimD.nam (h : SimD φ s r) : s.names.map (·.1) = r.names.map (·.1) := by rw [h.names, mapF_keys]

/-- What two calls tell. -/
def SimR (φ : Nat → Nat) (s r : Ds) (x y : Except Nat Ds) : Prop :=
  (∃ k, x = .error k ∧ y = .error k) ∨ ∃ a b, x = .ok a ∧ y = .ok b ∧ SimD φ a b ∧ a.left = (stepS s).left ∧ b.left = (stepS r).left

theorem SimD.chgs (h : SimD φ s r) {c c' : Chg} (hc : nrm id c = nrm φ c') (hl : c'.dst.size ≠ 0 → lvd r c'.f) : SimD φ (chgS s c) (chgS r c') := by
  have hlv : ∀ k, lvd (chgS r c') k → lvd r k := fun k hk => by
    rcases hk with ⟨p, h1, h2⟩ | ⟨p, h1, h2⟩ | ⟨x, h1, h2, h3⟩
    · have h1 : p ∈ appN c' r.names := h1
      by_cases h0 : c'.dst.size = 0
      · unfold appN at h1
        rw [if_pos h0] at h1
        exact .inl ⟨p, delN_mem h1, h2⟩
      · rcases appN_mem h1 with h4 | h4
        · rw [← h2, h4]; exact hl h0
        · exact .inl ⟨p, h4, h2⟩
    · exact .inr (.inl ⟨p, h1, h2⟩)
    · have h1 : x ∈ r.chg ++ [c'] := h1
      rcases List.mem_append.1 h1 with h4 | h4
      · exact .inr (.inr ⟨x, h4, h2, h3⟩)
      · rw [List.mem_singleton.1 h4] at h2 h3
        rw [← h3]; exact hl h2
  refine ⟨h.room, by show s.steps + 1 = r.steps + 1; rw [h.steps], ?_, h.safe, ?_, fun k hk => h.fl k (hlv k hk), fun j k hj hk => h.inj j k (hlv j hj) (hlv k hk)⟩
  · show appN c s.names = mapF φ (appN c' r.names)
    rw [h.names, appN_mapF hc]
  · show (s.chg ++ [c]).map (nrm id) = (r.chg ++ [c']).map (nrm φ)
    rw [List.map_append, List.map_append, h.chg, List.map_singleton, List.map_singleton, hc]

theorem SimD.ups (h : SimD φ s r) {k : Nat} (hk : lvd r k) (x : Fl) : SimD φ (stepS { s with fl := updF s.fl (φ k) x }) (stepS { r with fl := updF r.fl k x }) := by
  refine ⟨h.room, by show s.steps + 1 = r.steps + 1; rw [h.steps], h.names, h.safe, h.chg, fun j hj => ?_, h.inj⟩
  show updF s.fl (φ k) x (φ j) = updF r.fl k x j
  unfold updF
  by_cases e : j = k
  · rw [if_pos e, e, if_pos rfl]
  · rw [if_neg e, if_neg (fun e2 => e (h.inj j k hj hk e2))]
    exact h.fl j hj

theorem SimD.get (h : SimD φ s r) (t : ByteArray) : getN t s.names = (getN t r.names).map φ := by rw [h.names, getN_mapF]

theorem SimD.app (h : SimD φ s r) (hl : s.left = 0 ↔ r.left = 0) (t : ByteArray) (bs : List Nat) : SimR φ s r (appS s t bs) (appS r t bs) := by
  unfold appS
  by_cases h0 : r.left = 0
  · rw [if_pos h0, if_pos (hl.2 h0)]; exact .inl ⟨94, rfl, rfl⟩
  · rw [if_neg h0, if_neg (fun e => h0 (hl.1 e)), h.get]
    cases hg : getN t r.names with
    | none => exact .inl ⟨92, rfl, rfl⟩
    | some k =>
      have hk : lvd r k := .inl ⟨_, getN_mem hg, rfl⟩
      dsimp only [Option.map_some]
      by_cases hc : r.room < usedN r + bs.length
      · rw [if_pos hc, if_pos (by rw [h.used, h.room]; exact hc)]
        exact .inl ⟨93, rfl, rfl⟩
      · rw [if_neg hc, if_neg (by rw [h.used, h.room]; exact hc)]
        refine .inr ⟨_, _, rfl, rfl, ?_, rfl, rfl⟩
        rw [h.fl k hk]
        exact h.ups hk ⟨(r.fl k).bs ++ bs, (r.fl k).safe⟩

theorem SimD.syn (h : SimD φ s r) (hl : s.left = 0 ↔ r.left = 0) (t : ByteArray) : SimR φ s r (synS s t) (synS r t) := by
  unfold synS
  by_cases h0 : r.left = 0
  · rw [if_pos h0, if_pos (hl.2 h0)]; exact .inl ⟨94, rfl, rfl⟩
  · rw [if_neg h0, if_neg (fun e => h0 (hl.1 e)), h.get]
    cases hg : getN t r.names with
    | none => exact .inl ⟨92, rfl, rfl⟩
    | some k =>
      have hk : lvd r k := .inl ⟨_, getN_mem hg, rfl⟩
      dsimp only [Option.map_some]
      refine .inr ⟨_, _, rfl, rfl, ?_, rfl, rfl⟩
      rw [h.fl k hk]
      exact h.ups hk ⟨(r.fl k).bs, (r.fl k).bs.length⟩

theorem SimD.ren (h : SimD φ s r) (hl : s.left = 0 ↔ r.left = 0) (t u : ByteArray) : SimR φ s r (renS s t u) (renS r t u) := by
  unfold renS
  by_cases h0 : r.left = 0
  · rw [if_pos h0, if_pos (hl.2 h0)]; exact .inl ⟨94, rfl, rfl⟩
  · rw [if_neg h0, if_neg (fun e => h0 (hl.1 e)), h.get]
    cases hg : getN t r.names with
    | none => exact .inl ⟨92, rfl, rfl⟩
    | some k =>
      have hk : lvd r k := .inl ⟨_, getN_mem hg, rfl⟩
      dsimp only [Option.map_some]
      by_cases hn : nam9 u = true
      · rw [if_pos hn, if_pos hn]
        exact .inr ⟨_, _, rfl, rfl, h.chgs rfl (fun _ => hk), rfl, rfl⟩
      · rw [if_neg hn, if_neg hn]
        exact .inl ⟨90, rfl, rfl⟩

theorem SimD.syd (h : SimD φ s r) (hl : s.left = 0 ↔ r.left = 0) : SimR φ s r (sydS s) (sydS r) := by
  unfold sydS
  by_cases h0 : r.left = 0
  · rw [if_pos h0, if_pos (hl.2 h0)]; exact .inl ⟨94, rfl, rfl⟩
  · rw [if_neg h0, if_neg (fun e => h0 (hl.1 e))]
    have hlv : ∀ k, lvd (stepS { r with safe := r.names, chg := [] }) k → lvd r k := fun k hk => by
      rcases hk with hk | hk | ⟨c, h1, _⟩
      · exact .inl hk
      · exact .inl hk
      · cases h1
    exact .inr ⟨_, _, rfl, rfl, ⟨h.room, by show s.steps + 1 = r.steps + 1; rw [h.steps], h.names, h.names, rfl, fun k hk => h.fl k (hlv k hk), fun j k hj hk => h.inj j k (hlv j hj) (hlv k hk)⟩, rfl, rfl⟩

theorem SimD.rea (h : SimD φ s r) (hl : s.left = 0 ↔ r.left = 0) (t : ByteArray) : reaS s t = reaS r t := by
  unfold reaS
  by_cases h0 : r.left = 0
  · rw [if_pos h0, if_pos (hl.2 h0)]
  · rw [if_neg h0, if_neg (fun e => h0 (hl.1 e)), h.get]
    cases hg : getN t r.names with
    | none => rfl
    | some k =>
      dsimp only [Option.map_some]
      rw [h.fl k (.inl ⟨_, getN_mem hg, rfl⟩)]

/-- The files' numbers with one more. -/
def upP (φ : Nat → Nat) (g f : Nat) : Nat → Nat := fun k => if k = g then f else φ k

theorem SimD.cre (h : SimD φ s r) (hl : s.left = 0 ↔ r.left = 0) (t : ByteArray) (f g : Nat) (hf : ¬ refd s f) (hg : ¬ lvd r g) : (∃ k, creS s t f = .error k ∧ creS r t g = .error k) ∨ ∃ a b, creS s t f = .ok a ∧ creS r t g = .ok b ∧ SimD (upP φ g f) a b ∧ a.left = (stepS s).left ∧ b.left = (stepS r).left := by
  have hne : ∀ k, lvd r k → k ≠ g := fun k hk e => hg (by rw [← e]; exact hk)
  have hup : ∀ k, lvd r k → upP φ g f k = φ k := fun k hk => if_neg (hne k hk)
  have hnm : s.names = mapF (upP φ g f) r.names := by rw [h.names]; exact mapF_congr (fun p hp => (hup _ (.inl ⟨p, hp, rfl⟩)).symm)
  have hsf : s.safe = mapF (upP φ g f) r.safe := by rw [h.safe]; exact mapF_congr (fun p hp => (hup _ (.inr (.inl ⟨p, hp, rfl⟩))).symm)
  have hch : s.chg.map (nrm id) = r.chg.map (nrm (upP φ g f)) := by
    rw [h.chg]
    refine List.map_congr_left (fun c hc => ?_)
    unfold nrm
    by_cases h0 : c.dst.size = 0
    · rw [if_pos h0, if_pos h0]
    · rw [if_neg h0, if_neg h0, hup _ (.inr (.inr ⟨c, hc, h0, rfl⟩))]
  have hrf : ∀ k, lvd r k → φ k ≠ f := fun k hk e => hf (by
    rw [← e]
    rcases hk with ⟨p, h1, h2⟩ | ⟨p, h1, h2⟩ | ⟨c, h1, h2, h3⟩
    · exact .inl ⟨(p.1, φ p.2), by rw [h.names]; exact List.mem_map.2 ⟨p, h1, rfl⟩, by rw [← h2]⟩
    · exact .inr (.inl ⟨(p.1, φ p.2), by rw [h.safe]; exact List.mem_map.2 ⟨p, h1, rfl⟩, by rw [← h2]⟩)
    · have h4 : nrm φ c ∈ s.chg.map (nrm id) := by rw [h.chg]; exact List.mem_map.2 ⟨c, h1, rfl⟩
      obtain ⟨c', h5, h6⟩ := List.mem_map.1 h4
      unfold nrm at h6
      simp only [Prod.mk.injEq] at h6
      obtain ⟨_, h7, h8⟩ := h6
      rw [h7, if_neg h2, if_neg h2] at h8
      simp only [Option.some.injEq, id] at h8
      exact .inr (.inr ⟨c', h5, by rw [h8, h3]⟩))
  unfold creS
  by_cases h0 : r.left = 0
  · rw [if_pos h0, if_pos (hl.2 h0)]; exact .inl ⟨94, rfl, rfl⟩
  · rw [if_neg h0, if_neg (fun e => h0 (hl.1 e))]
    by_cases h1 : nam9 t = false
    · rw [if_pos h1, if_pos h1]; exact .inl ⟨90, rfl, rfl⟩
    · rw [if_neg h1, if_neg h1]
      have hgn : (getN t s.names).isSome = (getN t r.names).isSome := by rw [h.get, Option.isSome_map]
      have hln : s.names.length = r.names.length := by rw [h.names, mapF_len]
      rw [hgn, hln]
      by_cases h2 : (getN t r.names).isSome = true
      · rw [if_pos h2, if_pos h2]; exact .inl ⟨91, rfl, rfl⟩
      · rw [if_neg h2, if_neg h2]
        by_cases h3 : 64 ≤ r.names.length
        · rw [if_pos h3, if_pos h3]; exact .inl ⟨95, rfl, rfl⟩
        · rw [if_neg h3, if_neg h3]
          have hg1 : upP φ g f g = f := if_pos rfl
          have hc : nrm id ⟨⟨#[]⟩, t, f⟩ = nrm (upP φ g f) ⟨⟨#[]⟩, t, g⟩ := by unfold nrm; dsimp only; rw [hg1]; rfl
          have hlv : ∀ k, lvd (chgS { r with fl := updF r.fl g ⟨[], 0⟩ } ⟨⟨#[]⟩, t, g⟩) k → lvd r k ∨ k = g := fun k hk => by
            rcases hk with ⟨p, h4, h5⟩ | ⟨p, h4, h5⟩ | ⟨x, h4, h5, h6⟩
            · rcases appN_mem h4 with h7 | h7
              · rw [h7] at h5; exact .inr h5.symm
              · exact .inl (.inl ⟨p, h7, h5⟩)
            · exact .inl (.inr (.inl ⟨p, h4, h5⟩))
            · rcases List.mem_append.1 h4 with h7 | h7
              · exact .inl (.inr (.inr ⟨x, h7, h5, h6⟩))
              · rw [List.mem_singleton.1 h7] at h6; exact .inr h6.symm
          refine .inr ⟨_, _, rfl, rfl, ⟨h.room, by show s.steps + 1 = r.steps + 1; rw [h.steps], ?_, hsf, ?_, fun k hk => ?_, fun j k hj hk e => ?_⟩, rfl, rfl⟩
          · show appN ⟨⟨#[]⟩, t, f⟩ s.names = mapF (upP φ g f) (appN ⟨⟨#[]⟩, t, g⟩ r.names)
            rw [hnm, appN_mapF hc]
          · show (s.chg ++ [_]).map (nrm id) = (r.chg ++ [_]).map (nrm (upP φ g f))
            rw [List.map_append, List.map_append, hch, List.map_singleton, List.map_singleton, hc]
          · show updF s.fl f ⟨[], 0⟩ (upP φ g f k) = updF r.fl g ⟨[], 0⟩ k
            rcases hlv k hk with h4 | h4
            · rw [hup k h4]
              unfold updF
              rw [if_neg (hrf k h4), if_neg (hne k h4)]
              exact h.fl k h4
            · rw [h4, hg1]
              unfold updF
              rw [if_pos rfl, if_pos rfl]
          · rcases hlv j hj with h4 | h4 <;> rcases hlv k hk with h5 | h5
            · rw [hup j h4, hup k h5] at e; exact h.inj j k h4 h5 e
            · rw [hup j h4, h5, hg1] at e; exact absurd e (hrf j h4)
            · rw [hup k h5, h4, hg1] at e; exact absurd e.symm (hrf k h5)
            · rw [h4, h5]

end

end Go.Proofs.Ytkceahdpcdfckaa

/-
  Layer 9: two disks that tell the same: crashes, calls of a script.
-/
namespace Go.Proofs.Ytkceahdpcdfckaa
open Go.RowKit Go.Maps

theorem foldN_mapF {φ : Nat → Nat} : ∀ (cs cs' : List Chg) (L : Nms), cs.map (nrm id) = cs'.map (nrm φ) → foldN (mapF φ L) cs = mapF φ (foldN L cs')
  | [], [], L, _ => rfl
  | [], _ :: _, L, h => by simp at h
  | _ :: _, [], L, h => by simp at h
  | c :: cs, c' :: cs', L, h => by
    simp only [List.map_cons, List.cons.injEq] at h
    show foldN (appN c (mapF φ L)) cs = mapF φ (foldN (appN c' L) cs')
    rw [appN_mapF h.1]
    exact foldN_mapF cs cs' _ h.2

theorem foldN_live (cs : List Chg) : ∀ (L : Nms) (p : ByteArray × Nat), p ∈ foldN L cs → p ∈ L ∨ ∃ c ∈ cs, c.dst.size ≠ 0 ∧ p = (c.dst, c.f) := by
  induction cs with
  | nil => intro L p h; exact .inl h
  | cons c cs ih =>
    intro L p h
    rcases ih (appN c L) p h with h | ⟨c', h1, h2⟩
    · by_cases h0 : c.dst.size = 0
      · unfold appN at h
        rw [if_pos h0] at h
        exact .inl (delN_mem h)
      · rcases appN_mem h with h | h
        · exact .inr ⟨c, List.mem_cons_self, h0, h⟩
        · exact .inl h
    · exact .inr ⟨c', List.mem_cons_of_mem _ h1, h2⟩

theorem craFl_mapF {φ : Nat → Nat} {A : Nat → Prop} (cs : List Int) (hi : ∀ j k, A j → A k → φ j = φ k → j = k) : ∀ (L : Nms) (i : Nat) (sf rf : Nat → Fl), (∀ p ∈ L, A p.2) → (∀ k, A k → sf (φ k) = rf k) → ∀ k, A k → craFl cs i (mapF φ L) sf (φ k) = craFl cs i L rf k
  | [], i, sf, rf, _, h, k, hk => h k hk
  | p :: L, i, sf, rf, hL, h, k, hk => by
    show craFl cs (i + 1) (mapF φ L) (updF sf (φ p.2) (crF (sf (φ p.2)) (pkN cs (i + 1)))) (φ k) = craFl cs (i + 1) L (updF rf p.2 (crF (rf p.2) (pkN cs (i + 1)))) k
    have hp := hL p List.mem_cons_self
    refine craFl_mapF cs hi L (i + 1) _ _ (fun q hq => hL q (List.mem_cons_of_mem _ hq)) (fun j hj => ?_) k hk
    unfold updF
    by_cases e : j = p.2
    · rw [if_pos e, e, if_pos rfl, h _ hp]
    · rw [if_neg e, if_neg (fun e2 => e (hi j p.2 hj hp e2))]
      exact h j hj

section
variable {φ : Nat → Nat} {s r : Ds}

theorem SimD.rem (h : SimD φ s r) (hl : s.left = 0 ↔ r.left = 0) (t : ByteArray) : SimR φ s r (remS s t) (remS r t) := by
  unfold remS
  by_cases h0 : r.left = 0
  · rw [if_pos h0, if_pos (hl.2 h0)]; exact .inl ⟨94, rfl, rfl⟩
  · rw [if_neg h0, if_neg (fun e => h0 (hl.1 e)), h.get]
    cases hg : getN t r.names with
    | none => exact .inl ⟨92, rfl, rfl⟩
    | some k => exact .inr ⟨_, _, rfl, rfl, h.chgs rfl (fun h => absurd rfl h), rfl, rfl⟩

theorem lvd_cra (r : Ds) (cs : List Int) (k : Nat) (hk : lvd (craS r cs) k) : lvd r k := by
  have hm : ∀ p ∈ craN r cs, lvd r p.2 := fun p hp => by
    rcases foldN_live _ _ p hp with h1 | ⟨c, h1, h2, h3⟩
    · exact .inr (.inl ⟨p, h1, rfl⟩)
    · rw [h3]; exact .inr (.inr ⟨c, List.mem_of_mem_take h1, h2, rfl⟩)
  rcases hk with ⟨p, h1, h2⟩ | ⟨p, h1, h2⟩ | ⟨c, h1, _⟩
  · rw [← h2]; exact hm p h1
  · rw [← h2]; exact hm p h1
  · cases h1

theorem SimD.cra (h : SimD φ s r) (cs : List Int) : SimD φ (craS s cs) (craS r cs) := by
  have hn : craN s cs = mapF φ (craN r cs) := by
    unfold craN
    have hk : krN s cs = krN r cs := by unfold krN; rw [h.chgLen]
    rw [hk, h.safe]
    refine foldN_mapF _ _ _ ?_
    rw [List.map_take, List.map_take, h.chg]
  refine ⟨h.room, h.steps, hn, hn, rfl, fun k hk => ?_, fun j k hj hk => h.inj j k (lvd_cra r cs j hj) (lvd_cra r cs k hk)⟩
  show craFl cs 0 (craN s cs) s.fl (φ k) = craFl cs 0 (craN r cs) r.fl k
  rw [hn]
  refine craFl_mapF (A := lvd r) cs h.inj _ 0 _ _ (fun p hp => ?_) h.fl k (lvd_cra r cs k hk)
  exact lvd_cra r cs p.2 (.inl ⟨p, hp, rfl⟩)

/-- Behind a call: no step, or one. -/
def OneL (s r a b : Ds) : Prop := (a.left = s.left ∧ b.left = r.left ∧ b.steps = r.steps) ∨ (a.left = (stepS s).left ∧ b.left = (stepS r).left ∧ b.steps = r.steps + 1)

theorem SimR.or {x y : Except Nat Ds} (h : SimR φ s r x y) (hs : SimD φ s r) (hst : ∀ b, y = .ok b → b.steps = r.steps + 1) : SimD φ (orS s x) (orS r y) ∧ OneL s r (orS s x) (orS r y) := by
  rcases h with ⟨k, rfl, rfl⟩ | ⟨a, b, rfl, rfl, h1, h2, h3⟩
  · exact ⟨hs, .inl ⟨rfl, rfl, rfl⟩⟩
  · exact ⟨h1, .inr ⟨h2, h3, hst b rfl⟩⟩

theorem SimD.op (h : SimD φ s r) (hl : s.left = 0 ↔ r.left = 0) (o : O9) (f g : Nat) (hf : ¬ refd s f) (hg : ¬ refd r g) (h8 : o.k ≠ 8) (h9 : o.k ≠ 9) : ∃ φ', SimD φ' (opS s o f) (opS r o g) ∧ OneL s r (opS s o f) (opS r o g) := by
  unfold opS
  by_cases e1 : o.k = 1
  · rw [if_pos e1, if_pos e1]
    rcases h.cre hl o.a f g hf (fun hk => hg hk.refd) with ⟨k, h1, h2⟩ | ⟨a, b, h1, h2, h3, h4, h5⟩
    · rw [h1, h2]; exact ⟨φ, h, .inl ⟨rfl, rfl, rfl⟩⟩
    · rw [h1, h2]
      refine ⟨_, h3, .inr ⟨h4, h5, ?_⟩⟩
      unfold creS at h2
      repeat' split at h2
      all_goals cases h2
      rfl
  rw [if_neg e1, if_neg e1]
  by_cases e2 : o.k = 2
  · rw [if_pos e2, if_pos e2]
    exact ⟨φ, (h.app hl o.a o.bs).or h (fun b e => by
      unfold appS at e
      repeat' split at e
      all_goals cases e
      rfl)⟩
  rw [if_neg e2, if_neg e2]
  by_cases e3 : o.k = 3
  · rw [if_pos e3, if_pos e3]
    exact ⟨φ, (h.syn hl o.a).or h (fun b e => by
      unfold synS at e
      repeat' split at e
      all_goals cases e
      rfl)⟩
  rw [if_neg e3, if_neg e3]
  by_cases e4 : o.k = 4
  · rw [if_pos e4, if_pos e4]
    exact ⟨φ, (h.ren hl o.a o.b).or h (fun b e => by
      unfold renS at e
      repeat' split at e
      all_goals cases e
      rfl)⟩
  rw [if_neg e4, if_neg e4]
  by_cases e5 : o.k = 5
  · rw [if_pos e5, if_pos e5]
    exact ⟨φ, (h.rem hl o.a).or h (fun b e => by
      unfold remS at e
      repeat' split at e
      all_goals cases e
      rfl)⟩
  rw [if_neg e5, if_neg e5]
  by_cases e6 : o.k = 6
  · rw [if_pos e6, if_pos e6]
    exact ⟨φ, (h.syd hl).or h (fun b e => by
      unfold sydS at e
      repeat' split at e
      all_goals cases e
      rfl)⟩
  rw [if_neg e6, if_neg e6, if_neg h8, if_neg h8, if_neg h9, if_neg h9]
  exact ⟨φ, h, .inl ⟨rfl, rfl, rfl⟩⟩

end

theorem sim_new (n : Nat) : SimD id (newD n) (newD n) := ⟨rfl, rfl, rfl, rfl, rfl, fun _ _ => rfl, fun _ _ _ _ e => e⟩

theorem plyS_one {s s' : Ds} {o : O9} (h : PlyS s [o] s') : ∃ f, ¬ refd s f ∧ s' = opS s o f := by
  generalize hos : [o] = os at h
  cases h with
  | nil => cases hos
  | snoc o' f h1 hf =>
    rename_i s1 os1
    have h2 : os1 = [] ∧ o' = o := by
      cases os1 with
      | nil => simp at hos; exact ⟨rfl, hos.symm⟩
      | cons x l => simp at hos
    obtain ⟨rfl, rfl⟩ := h2
    generalize hn : ([] : List O9) = l at h1
    cases h1 with
    | nil => exact ⟨f, hf, rfl⟩
    | snoc o'' f' _ _ => simp at hn

theorem stepL (s : Ds) : (stepS s).left = if s.left = -1 then -1 else s.left - 1 := rfl

/-- Texts: two rows of the same texts. -/
theorem xtexts_same (w : World) (va vb : Value) (I J : Nat → Prop) (xs : List ByteArray) (ha : SrcE strV w I va xs) (hb : SrcE strV w J vb xs) (hx : xs.length ≤ 1000000) :
    Calls Try.prog 25 #[va, vb] w fun e w' => e = .returned (.bool true) ∧ Same w w' := by
  obtain ⟨ao, ca, rfl, _, hsa⟩ := id ha
  obtain ⟨bo, cb, rfl, _, hsb⟩ := id hb
  obtain ⟨n, hn⟩ : ∃ n, n = xs.length := ⟨_, rfl⟩
  have HA : Hid (∀ j (hj : j < n), ∃ b o t, ao = some ⟨b, o, none⟩ ∧ w.cell? ⟨b, o + j, none⟩ = some (.string t) ∧ ∃ b' o', bo = some ⟨b', o', none⟩ ∧ w.cell? ⟨b', o' + j, none⟩ = some (.string t)) := hid (fun j hj => by
    have hne : xs ≠ [] := fun e => by rw [e] at hn; simp at hn; omega
    obtain ⟨b, o, h1, _, h2⟩ := hsa hne
    obtain ⟨b', o', h3, _, h4⟩ := hsb hne
    exact ⟨b, o, xs[j]'(by omega), h1, h2 j (by omega), b', o', h3, h4 j (by omega)⟩)
  have HN : Hid (n ≤ 1000000) := hid (by omega)
  rw [← hn]
  clear ha hb hsa hsb hx hn
  go_enter Try.func25, Try.ntmps25
  go_wp2_with fail
  go_loopg [5] n (fun qq z wr => ∃ i : Nat, z = .int .i64 (i : Nat) ∧ i ≤ n ∧ n - i ≤ qq ∧ Hid (Same w wr))
  case atStart => exact ⟨0, rfl, by omega, by omega, hid (Kept.refl _ _)⟩
  case round =>
    obtain ⟨i, rfl, hi, hiq, HI⟩ := hrel
    by_cases hlt : i < n
    · have c1 : decide (i < n) = true := by simp; omega
      obtain ⟨b, o, t, ha, h1, b', o', hb, h2⟩ := HA.out i hlt
      subst ha hb
      have k1 : wr.cell? ⟨b, o + i, none⟩ = some (.string t) := HI.out.cell h1 (fun f => f)
      have k2 : wr.cell? ⟨b', o' + i, none⟩ = some (.string t) := HI.out.cell h2 (fun f => f)
      have i1 : (0 : Int) ≤ (i : Int) := by omega
      have i2 : (i : Int) < (n : Int) := by omega
      have hiw : IntKind.i64.wrap ((i : Int) + 1) = ((i + 1 : Nat) : Int) := by rw [IntKind.wrap_i64]; have := HN.out; omega
      have HX : Hid (i < n) := hlt
      clear h1 h2 hlt
      go_wp2_with fail
      go_quiet (fail)
      go_wp2_with fail
      go_roundg (gk - 1)
      case measure => have := HX.out; omega
      case rel => exact ⟨i + 1, by go_num, by have := HX.out; omega, by have := HX.out; omega, hid (HI.out.drewN _)⟩
    · have c1 : decide (i < n) = false := by simp; omega
      go_wp2_with fail
      go_ret
      exact ⟨rfl, HI.out⟩

end Go.Proofs.Ytkceahdpcdfckaa

/-
  Layer 9's law DiskStops.
-/
namespace Go.Proofs.Ytkceahdpcdfckaa
open Go.RowKit Go.Maps

set_option maxHeartbeats 400000 in
theorem dused_down (w : World) (d : Nat) (h : w.cell? ⟨d, 5, none⟩ = some (.int .i64 0)) :
    Calls Try.prog 29 #[.pointer (some ⟨d, 0, none⟩)] w fun e w' => e = .returned (.int .i64 0) ∧ w' = w := by
  have HR := drefuse_any w d 0 h
  rw [show dwn 0 = 94 from rfl] at HR
  go_enter Try.func29, Try.ntmps29
  go_wp2_with fail
  refine HR.mono ?_
  rintro e w1 ⟨rfl, hw1⟩
  subst hw1
  go_wp2_with fail
  go_ret
  exact ⟨rfl, rfl⟩

/-- Used's answer. -/
def useS (s : Ds) : Nat := if s.left = 0 then 0 else usedN s

theorem xused {N : Nat} {w : World} {d : Nat} {s : Ds} {ρ : Rho} (h : DkX N w d s ρ) (hst : s.steps ≤ 1000000) :
    Calls Try.prog 29 #[.pointer (some ⟨d, 0, none⟩)] w fun e w' => e = .returned (.int .i64 (useS s : Nat)) ∧ Same w w' := by
  obtain ⟨nb, sb, cv, h⟩ := h
  by_cases hl : s.left = 0
  · have c5 : w.cell? ⟨d, 5, none⟩ = some (.int .i64 s.left) := h.blk.cell 5
    rw [hl] at c5
    refine (dused_down w d c5).mono (fun e w' hh => ⟨?_, by rw [hh.2]; exact Kept.refl _ _⟩)
    rw [hh.1, show useS s = 0 from if_pos hl]
    rfl
  · rw [show useS s = usedN s from if_neg hl]
    exact dused_any h hst hl

theorem src_none (w : World) : SrcE intV w (fun _ => False) (.slice none 0 0) [] := ⟨none, 0, rfl, Nat.le_refl _, fun h => absurd rfl h⟩

/-- The two disks of DiskStops, behind some calls. -/
structure StI (W : World) (N1 N2 d x : Nat) (m : Int) (i : Nat) (wr : World) (s r : Ds) (ρ1 ρ2 : Rho) (φ : Nat → Nat) : Prop where
  d1 : DkX N1 wr d s ρ1
  d2 : DkX N2 wr x r ρ2
  ap : ∀ k, ρ1 k = 0 ∨ ρ2 k = 0
  sim : SimD φ s r
  lr : r.left = -1
  ls : s.left = m - r.steps
  st : r.steps ≤ i
  le : (r.steps : Int) ≤ m
  old : Same W wr
  n1 : W.heap.size ≤ N1
  n2 : W.heap.size ≤ N2
  w1 : N1 ≤ wr.heap.size
  w2 : N2 ≤ wr.heap.size

/-- One call on both. -/
theorem StI.next {W : World} {N1 N2 d x : Nat} {m : Int} {i : Nat} {wr : World} {s r : Ds} {ρ1 ρ2 : Rho} {φ : Nat → Nat} (h : StI W N1 N2 d x m i wr s r ρ1 ρ2 φ) {o : O9} (h8 : o.k ≠ 8) (h9 : o.k ≠ 9) (hs : (r.steps : Int) ≠ m)
    {wa wb wc wd : World} {s' r' : Ds} {ρ1' ρ2' : Rho} (ka : Same wr wa) (p1 : PlyS s [o] s') (q1 : DkX N1 wb d s' ρ1') (m1 : MoR wa ρ1 ρ1') (k1 : Kept (fun k => ρ1 k ≠ 0) wa wb)
    (kc : Same wb wc) (p2 : PlyS r [o] r') (q2 : DkX N2 wd x r' ρ2') (m2 : MoR wc ρ2 ρ2') (k2 : Kept (fun k => ρ2 k ≠ 0) wc wd) : ∃ φ', StI W N1 N2 d x m (i + 1) wd s' r' ρ1' ρ2' φ' := by
  obtain ⟨f, hf, rfl⟩ := plyS_one p1
  obtain ⟨g, hg, rfl⟩ := plyS_one p2
  have hl0 : s.left ≠ 0 := by have := h.ls; omega
  obtain ⟨φ', hsim, hone⟩ := h.sim.op (by rw [h.lr]; exact ⟨fun e => absurd e hl0, fun e => by cases e⟩) o f g hf hg h8 h9
  have ap1 : ∀ k, ρ1' k = 0 ∨ ρ2 k = 0 := m1.apart h.ap (fun k hk => Nat.lt_of_lt_of_le (h.d2.new k hk).2 ka.size)
  have D1 : DkX N1 wd d (opS s o f) ρ1' := (q1.same kc).aside k2 (fun k => (ap1 k).symm)
  have hss := stepL s
  have hsr := stepL r
  rw [h.lr, if_pos rfl] at hsr
  rw [if_neg (by have := h.ls; have := h.le; omega)] at hss
  have hsz1 := ka.size
  have hsz2 := k1.size
  have hsz3 := kc.size
  have hsz4 := k2.size
  have h1 := h.w1
  have h2 := h.w2
  refine ⟨φ', D1, q2, fun k => (m2.apart (fun k => (ap1 k).symm) (fun k hk => Nat.lt_of_lt_of_le (q1.new k hk).2 kc.size) k).symm, hsim, ?_, ?_, ?_, ?_, ?_, h.n1, h.n2, by omega, by omega⟩
  · rcases hone with ⟨_, e, _⟩ | ⟨_, e, _⟩
    · rw [e]; exact h.lr
    · rw [e, hsr]
  · have := h.ls
    rcases hone with ⟨e1, _, e2⟩ | ⟨e1, _, e2⟩
    · rw [e1, e2]; exact this
    · rw [e1, e2, hss]; omega
  · have := h.st
    rcases hone with ⟨_, _, e2⟩ | ⟨_, _, e2⟩ <;> omega
  · have := h.le
    rcases hone with ⟨_, _, e2⟩ | ⟨_, _, e2⟩ <;> omega
  · have o1 : Same W wb := Kept.news (h.d1.same ka) (Same.trans h.old ka) h.n1 k1
    have o2 : Same W wc := Same.trans o1 kc
    have d2' : DkX N2 wc x r ρ2 := ((h.d2.same ka).aside k1 h.ap).same kc
    exact Kept.news d2' o2 h.n2 k2

end Go.Proofs.Ytkceahdpcdfckaa

/-
  Layer 9's law DiskSafe: what a disk keeps of a file that is safe.
-/
namespace Go.Proofs.Ytkceahdpcdfckaa
open Go.RowKit Go.Maps

theorem crF_full (x : Fl) (c : Int) (h : x.safe = x.bs.length) : crF x c = x := by
  have h0 : sayN c (x.bs.length - x.safe) = 0 := by
    have := sayN_le c (x.bs.length - x.safe)
    omega
  unfold crF
  rw [h0]
  obtain ⟨bs, sf⟩ := x
  dsimp only at h ⊢
  subst h
  split <;> simp

theorem craFl_full (cs : List Int) (f : Nat) : ∀ (L : Nms) (i : Nat) (fl : Nat → Fl), (fl f).safe = (fl f).bs.length → craFl cs i L fl f = fl f
  | [], _, _, _ => rfl
  | p :: L, i, fl, h => by
    have e : updF fl p.2 (crF (fl p.2) (pkN cs (i + 1))) f = fl f := by
      unfold updF
      by_cases e : f = p.2
      · rw [if_pos e, ← e, crF_full _ _ h]
      · rw [if_neg e]
    show craFl cs (i + 1) L (updF fl p.2 (crF (fl p.2) (pkN cs (i + 1)))) f = fl f
    rw [craFl_full cs f L (i + 1) _ (by rw [e]; exact h), e]

theorem craFl_one (cs : List Int) (f : Nat) : ∀ (L : Nms) (i : Nat) (fl : Nat → Fl), (∃ p ∈ L, p.2 = f) → (fl f).safe ≤ (fl f).bs.length → ∃ c, craFl cs i L fl f = crF (fl f) c
  | [], _, _, ⟨_, h, _⟩, _ => by cases h
  | p :: L, i, fl, ⟨q, hq, e⟩, h => by
    show ∃ c, craFl cs (i + 1) L (updF fl p.2 (crF (fl p.2) (pkN cs (i + 1)))) f = crF (fl f) c
    by_cases hp : f = p.2
    · have e1 : updF fl p.2 (crF (fl p.2) (pkN cs (i + 1))) f = crF (fl f) (pkN cs (i + 1)) := by
        unfold updF
        rw [if_pos hp, hp]
      have hk := crF_ok (fl f) (pkN cs (i + 1)) h
      exact ⟨pkN cs (i + 1), by rw [craFl_full cs f L (i + 1) _ (by rw [e1]; exact hk.1), e1]⟩
    · have e1 : updF fl p.2 (crF (fl p.2) (pkN cs (i + 1))) f = fl f := by
        unfold updF
        rw [if_neg hp]
      have hqL : q ∈ L := by
        rcases List.mem_cons.1 hq with h9 | h9
        · rw [h9] at e; exact absurd e.symm hp
        · exact h9
      obtain ⟨c, hc⟩ := craFl_one cs f L (i + 1) (updF fl p.2 (crF (fl p.2) (pkN cs (i + 1)))) ⟨q, hqL, e⟩ (by rw [e1]; exact h)
      exact ⟨c, by rw [hc, e1]⟩

/-- A disk on which a name is safe, and what its file holds. -/
structure SfI (s : Ds) (t : ByteArray) (f : Nat) (x : Fl) (L : Nms) : Prop where
  left : s.left = -1
  names : s.names = L
  safe : s.safe = L
  chg : s.chg = []
  get : getN t L = some f
  fl : s.fl f = x
  le : x.safe ≤ x.bs.length

section
variable {s : Ds} {t : ByteArray} {f : Nat} {x : Fl} {L : Nms}

theorem SfI.syn (h : SfI s t f x L) : synS s t = .ok (stepS { s with fl := updF s.fl f ⟨x.bs, x.bs.length⟩ }) ∧ SfI (stepS { s with fl := updF s.fl f ⟨x.bs, x.bs.length⟩ }) t f ⟨x.bs, x.bs.length⟩ L := by
  refine ⟨?_, ?_, h.names, h.safe, h.chg, h.get, if_pos rfl, Nat.le_refl _⟩
  · unfold synS
    rw [if_neg (by rw [h.left]; decide), h.names, h.get]
    dsimp only
    rw [h.fl]
  · show (if s.left = -1 then -1 else s.left - 1) = -1
    rw [if_pos h.left]

theorem SfI.app (h : SfI s t f x L) (cs : List Nat) : appS s t cs = .error 93 ∨ ∃ s', appS s t cs = .ok s' ∧ SfI s' t f ⟨x.bs ++ cs, x.safe⟩ L := by
  unfold appS
  rw [if_neg (by rw [h.left]; decide), h.names, h.get]
  dsimp only
  split
  · exact .inl rfl
  · refine .inr ⟨_, rfl, ?_, rfl, h.safe, h.chg, h.get, ?_, ?_⟩
    · show (if s.left = -1 then -1 else s.left - 1) = -1
      rw [if_pos h.left]
    · show updF s.fl f ⟨(s.fl f).bs ++ cs, (s.fl f).safe⟩ f = _
      rw [show updF s.fl f ⟨(s.fl f).bs ++ cs, (s.fl f).safe⟩ f = ⟨(s.fl f).bs ++ cs, (s.fl f).safe⟩ from if_pos rfl, h.fl]
    · show x.safe ≤ (x.bs ++ cs).length
      rw [List.length_append]
      have := h.le
      omega

theorem SfI.rea (h : SfI s t f x L) : reaS s t = .ok x.bs := by
  unfold reaS
  rw [if_neg (by rw [h.left]; decide), h.names, h.get]
  dsimp only
  rw [h.fl]

theorem SfI.cra (h : SfI s t f x L) (cs : List Int) : ∃ c, SfI (craS s cs) t f (crF x c) L := by
  have hn : craN s cs = L := by unfold craN; rw [h.chg, h.safe]; simp [foldN]
  obtain ⟨c, hc⟩ := craFl_one cs f L 0 s.fl ⟨(t, f), getN_mem h.get, rfl⟩ (by rw [h.fl]; exact h.le)
  refine ⟨c, rfl, hn, hn, rfl, h.get, ?_, Nat.le_of_eq (crF_ok x c h.le).1⟩
  show craFl cs 0 (craN s cs) s.fl f = _
  rw [hn, hc, h.fl]

theorem SfI.cra2 (h : SfI s t f x L) (hf : x.safe = x.bs.length) (cs : List Int) : SfI (craS s cs) t f x L := by
  obtain ⟨c, hc⟩ := h.cra cs
  rw [crF_full x c hf] at hc
  exact hc

theorem SfI.nam (h : SfI s t f x L) : namS s = L.map (·.1) := by
  unfold namS
  rw [if_neg (by rw [h.left]; decide), h.names]

end

/-- Bytes that lie outside a disk. -/
def Off (w : World) (ρ : Rho) (v : Value) (bs : List Nat) : Prop := Src w (fun k => ρ k = 0 ∧ k < w.heap.size) v bs ∧ (∀ n c, v = .slice none n c → n = 0 ∧ c = 0) ∧ ∀ a n c, v = .slice a n c → n ≤ c

theorem Off.same {w w' : World} {ρ : Rho} {v : Value} {bs : List Nat} (h : Off w ρ v bs) (hk : Same w w') : Off w' ρ v bs :=
  ⟨(h.1.kept hk (fun _ _ _ f => f)).mono (fun _ e => ⟨e.1, Nat.lt_of_lt_of_le e.2 hk.size⟩), h.2⟩

theorem Off.step {w w' : World} {ρ ρ' : Rho} {v : Value} {bs : List Nat} (h : Off w ρ v bs) (hk : Kept (fun k => ρ k ≠ 0) w w') (hm : MoR w ρ ρ') : Off w' ρ' v bs :=
  ⟨(h.1.kept hk (fun _ e _ f => f e.1)).mono (fun k e => ⟨by
    rcases hm k with h9 | h9 | h9
    · exact h9
    · rw [h9]; exact e.1
    · have := e.2; omega, Nat.lt_of_lt_of_le e.2 hk.size⟩), h.2⟩

theorem Off.fresh {w w' : World} {N : Nat} {d : Nat} {s : Ds} {ρ : Rho} {v : Value} {bs : List Nat} (hd : DkX N w d s ρ) (h : Fresh w w' v bs) : Off w' ρ v bs := by
  have hs := Src.ofRow h.row
  refine ⟨hs.mono (fun k e => ⟨Classical.byContradiction (fun h0 => by have := (hd.new k h0).2; have := h.new k e; omega), h.row.lt e⟩), fun n c e => ?_, fun a n c e => ?_⟩
  · rcases h.row.2 with ⟨e2, h2⟩ | ⟨g, cap, cur, e2, _⟩
    · rw [e] at e2
      simp only [Value.slice.injEq] at e2
      exact ⟨e2.2.1, e2.2.2⟩
    · rw [e] at e2; simp at e2
  · rcases h.row.2 with ⟨e2, h2⟩ | ⟨g, cap, cur, e2, _, _, h3, _⟩
    · rw [e] at e2
      simp only [Value.slice.injEq] at e2
      omega
    · rw [e] at e2
      simp only [Value.slice.injEq] at e2
      omega

/-- A slice of a block that was just laid. -/
theorem src_new9 (w : World) (I : Nat → Prop) (cur : Array Value) (ls : List Nat) (m K : Nat) (hm : m = ls.length) (hcl : ∃ rest : List Value, cur.toList = ls.map byteV ++ rest) : Src (w.drew.alloc (.cells cur 5)) (fun k => I k ∨ (w.heap.size ≤ k ∧ k < (w.drew.alloc (.cells cur 5)).heap.size)) (.slice (some ⟨w.heap.size, 0, none⟩) m K) ls := by
  subst hm
  refine ⟨_, _, rfl, fun _ => ⟨w.heap.size, 0, rfl, .inr ⟨Nat.le_refl _, by simp⟩, fun j hj => ?_⟩⟩
  have hb : Blk (w.drew.alloc (.cells cur 5)) w.heap.size cur 5 := Blk.new w.drew cur 5
  rw [Nat.zero_add, hb.cell j]
  obtain ⟨rest, hr⟩ := hcl
  rw [← Array.getElem?_toList, hr, List.getElem?_append_left (by rw [List.length_map]; exact hj), List.getElem?_map, List.getElem?_eq_getElem hj]
  rfl

/-- append onto a slice that has no room to spare: new memory, or itself. -/
theorem run_append_tight (w : World) (ty : TypeId) (I J : Nat → Prop) (a : Option Addr) (n : Nat) (bs cs : List Nat) (xv : Value) (hs : Src w I (.slice a n n) bs) (hn : ∀ n' c, Value.slice a n n = .slice none n' c → n' = 0 ∧ c = 0) (hx : Src w J xv cs) (hlen : bs.length + cs.length ≤ 1000000000000) :
    ∃ v' w', (Builtin.append_ #[33, 33] ty #[.slice a n n, xv]).run Try.prog w = .ok v' w' ∧ Same w w' ∧ Src w' (fun k => I k ∨ (w.heap.size ≤ k ∧ k < w'.heap.size)) v' (bs ++ cs) ∧ (∀ n' c, v' = .slice none n' c → n' = 0 ∧ c = 0) ∧ (∀ a' n' c, v' = .slice a' n' c → n' ≤ c) ∧ ∃ a' n' c, v' = .slice a' n' c := by
  obtain ⟨i0, hi, hz0, hz1, hz2⟩ := info_parts Try.info8
  have hsz : i0.size = 1 := hz1
  have hnl : n = bs.length := (Src.at hs).1
  obtain ⟨xa, xc, rfl, hxc⟩ := id hx
  by_cases h0 : cs = []
  · subst h0
    have hr : (Builtin.append_ #[33, 33] ty #[.slice a n n, .slice xa ([] : List Nat).length xc]).run Try.prog w = .ok (.slice a n n) w := by
      cases a <;> cases xa <;> simp [Builtin.append_, run_underlying Try.underlying33, sizeOf, typeInfo, hi, Builtin.lenOf, Builtin.firstCells, loadCells, loadCellsFrom, storeCells]
    refine ⟨_, _, hr, Kept.refl _ _, ?_, hn, fun a' n' c e => ?_, _, _, _, rfl⟩
    · rw [List.append_nil]; exact hs.mono (fun _ e => .inl e)
    · simp only [Value.slice.injEq] at e; omega
  · have hpos : 0 < cs.length := List.length_pos_iff.2 h0
    obtain ⟨ax, e, hb⟩ := (Src.at hx).2 h0
    subst e
    have fin : ∀ (m K : Nat) (cur : Array Value), m = (bs ++ cs).length → m ≤ K → (∃ rest : List Value, cur.toList = (bs ++ cs).map byteV ++ rest) → (Builtin.append_ #[33, 33] ty #[.slice a n n, .slice (some ax) cs.length xc]).run Try.prog w = .ok (.slice (some ⟨w.heap.size, 0, none⟩) m K) (w.drew.alloc (.cells cur 5)) →
        ∃ v' w', (Builtin.append_ #[33, 33] ty #[.slice a n n, .slice (some ax) cs.length xc]).run Try.prog w = .ok v' w' ∧ Same w w' ∧ Src w' (fun k => I k ∨ (w.heap.size ≤ k ∧ k < w'.heap.size)) v' (bs ++ cs) ∧ (∀ n' c, v' = .slice none n' c → n' = 0 ∧ c = 0) ∧ (∀ a' n' c, v' = .slice a' n' c → n' ≤ c) ∧ ∃ a' n' c, v' = .slice a' n' c := fun m K cur hm hK hcl hr => by
      refine ⟨_, _, hr, ((Kept.refl _ w).drew).alloc _, src_new9 w I cur (bs ++ cs) m K hm hcl, fun n' c e => by simp at e, fun a' n' c e => ?_, _, _, _, rfl⟩
      simp only [Value.slice.injEq] at e
      omega
    cases a with
    | none =>
      have hb0 : bs = [] := by
        have := hn n n rfl
        exact List.eq_nil_of_length_eq_zero (by omega)
      subst hb0
      have hn0 : n = 0 := hnl
      subst hn0
      have hr := run_append_nil (P := Try.prog) w 33 ty 5 i0 (.int .u8 0) Try.underlying33 hi hz0 ax cs.length xc (cs.map byteV) (by rw [hsz]; simp) hb hpos (by simp at hlen; omega) (by rw [hz2]; simp at hlen; omega)
      have hge := grownCap_ge w cs.length 0 5
      refine fin _ _ _ (by simp) hge ?_ hr
      exact ⟨(Builtin.zeroCells (Value.int .u8 0).cells (grownCap w cs.length 0 5 - cs.length)).toList, by simp⟩
    | some ab =>
      have hbo : BytesAt w ab bs := by
        by_cases hb0 : bs = []
        · subst hb0; intro j u hu; simp at hu
        · obtain ⟨a', e, hb'⟩ := (Src.at hs).2 hb0
          injection e with e
          subst e
          exact hb'
      subst hnl
      have hr := run_append_grow (P := Try.prog) w 33 ty 5 i0 (.int .u8 0) Try.underlying33 hi hz0 ab bs.length bs.length (bs.map byteV) (by rw [hsz]; simp) hbo ax cs.length xc (cs.map byteV) (by rw [hsz]; simp) hb (by omega) (by omega) (growslice_fits (by omega) (by rw [hz2]; omega))
      have hge := grownCap_ge w (bs.length + cs.length) bs.length 5
      refine fin _ _ _ (by simp) hge ?_ hr
      exact ⟨(Builtin.zeroCells (Value.int .u8 0).cells (grownCap w (bs.length + cs.length) bs.length 5 - (bs.length + cs.length))).toList, by simp⟩

/-- The same, as a step of a region that draws its order. -/
theorem step_append_tight {ops : Array Oper} {o : Oper} {ac : Act} {w : World} {K : Act → World → Prop} {Q : Exit → Act → World → Prop} {E : Prop} (hgd : o.guard = none) (s x : Operand)
    (ho : o.op = .call { callee := .builtin .append, args := #[s, x], argTypes := #[33, 33] })
    (a : Option Addr) (n : Nat) (bs : List Nat) (hse : ac.eval s = .slice a n n) (I J : Nat → Prop) (hs : Src w I (.slice a n n) bs) (hn : ∀ n' c, Value.slice a n n = .slice none n' c → n' = 0 ∧ c = 0) (xv : Value) (cs : List Nat) (hxe : ac.eval x = xv) (hx : Src w J xv cs) (hlen : bs.length + cs.length ≤ 1000000000000)
    (h : ∀ v' w', Same w w' → Src w' (fun k => I k ∨ (w.heap.size ≤ k ∧ k < w'.heap.size)) v' (bs ++ cs) → (∀ n' c, v' = .slice none n' c → n' = 0 ∧ c = 0) → (∀ a' n' c, v' = .slice a' n' c → n' ≤ c) → (∃ a' n' c, v' = .slice a' n' c) → K (ac.put o.dst v') w') : if Region.wanted o (yielded ops ac.tmps) = true then Oper.wp Try.prog o ac w K Q else E := by
  have hw : Region.wanted o (yielded ops ac.tmps) = true := by simp [Region.wanted, hgd]
  rw [if_pos hw]
  obtain ⟨v', w', hr, h1, h2, h3, h4, h5⟩ := run_append_tight w o.type I J a n bs cs xv hs hn hx hlen
  unfold Oper.wp execOp
  simp only [ho, resolve, invoke, builtin, Sem.run_bind, Sem.run_pure, Result.andThen_ok, List.map_toArray, List.map_cons, List.map_nil, hse, hxe, hr]
  exact h v' w' h1 h2 h3 h4 h5

end Go.Proofs.Ytkceahdpcdfckaa

/-
  Layer 9's law DiskSafe: parts that came in; names that are far too long.
-/
namespace Go.Proofs.Ytkceahdpcdfckaa
open Go.ChangeShapes Go.WideShapes Go.ChangeAt Go.RowKit Go.Deep Go.Maps

/-- One part: a slice and its bytes. -/
structure Pt9 where
  a : Option Addr
  n : Nat
  c : Nat
  bs : List Nat

instance : Inhabited Pt9 := ⟨⟨none, 0, 0, []⟩⟩

structure PtOk9 (W : World) (I : Nat → Prop) (p : Pt9) : Prop where
  src : Src W I (.slice p.a p.n p.c) p.bs
  len : p.bs.length = p.n
  byte : ∀ x ∈ p.bs, x < 256
  nil : ∀ n c, Value.slice p.a p.n p.c = .slice none n c → n = 0 ∧ c = 0

/-- Parts: a row of slices. -/
def Pts9 (W : World) (a : Option Addr) (len : Nat) (P : Nat → Pt9) : Prop :=
  ∀ j, j < len → PtOk9 W (fun k => k < W.heap.size) (P j) ∧ ∃ b o, a = some ⟨b, o, none⟩ ∧ b < W.heap.size ∧ W.cell? ⟨b, o + j, none⟩ = some (.slice (P j).a (P j).n (P j).c)

theorem parts9_of {H : Type} {enc : TypeId × Value → H} {W : World} {a : Option Addr} {len cap fuel : Nat} {x : DataW H × List MemPlace} (h : DataW.trod enc Try.prog W 0 (fun _ => true) true fuel 41 [.slice a len cap] = some x) :
    ∃ P : Nat → Pt9, Pts9 W a len P := by
  rcases open_slice1 Try.underlying41 Try.cells9b h with ⟨hcs, _⟩ | ⟨x0, l, c, m, n, V, D, Pl, hcs, _, hl, _, hm, _, hx⟩
  · simp only [List.cons.injEq, Value.slice.injEq, and_true] at hcs
    obtain ⟨rfl, rfl, rfl⟩ := hcs
    exact ⟨fun _ => default, fun j hj => by omega⟩
  · simp only [List.cons.injEq, Value.slice.injEq, and_true] at hcs
    obtain ⟨rfl, rfl, rfl⟩ := hcs
    simp only [if_true] at hm
    subst hm
    refine choose_lt (α := Pt9) (p := fun j p => PtOk9 W (fun k => k < W.heap.size) p ∧ ∃ b o, some x0 = some ⟨b, o, none⟩ ∧ b < W.heap.size ∧ W.cell? ⟨b, o + j, none⟩ = some (.slice p.a p.n p.c)) (fun j hj => ?_)
    obtain ⟨hc, ht⟩ := hx j (by omega)
    have hc0 := (hx 0 (by omega)).1
    have hx0 := spot_none hc0
    obtain ⟨a3, n3, c3, z3, e3, w3⟩ : ∃ a len cap zs, V j = .slice a len cap ∧ IsRow .u8 W a len cap zs := by
      rcases open_ints Try.underlying33 Try.underlying5 Try.cells9u ht with ⟨hcs, _⟩ | ⟨x, l, c, zs, hcs, _, hl, hm, hz, _, hcell, hwz⟩
      · simp only [List.cons.injEq, and_true] at hcs
        exact ⟨none, 0, 0, [], hcs, .inl ⟨rfl, rfl, rfl, rfl⟩⟩
      · simp only [List.cons.injEq, and_true] at hcs
        exact ⟨_, _, _, zs, hcs, .inr ⟨_, rfl, hl, hm, by simpa using hz, hcell, hwz⟩⟩
    obtain ⟨bs, hs, hbl, hb⟩ := w3.src
    refine ⟨⟨a3, n3, c3, bs⟩, ⟨hs, hbl, hb, nil9 w3⟩, x0.block, x0.off, by rw [← hx0], ?_, ?_⟩
    · have h9 := World.block_lt_of_cell? W _ hc0
      simpa [Addr.add] using h9
    · rw [hx0, addAt] at hc
      rw [hc, e3]

set_option maxHeartbeats 400000 in
theorem dname_long (w : World) (s : ByteArray) (hn : 32 < s.size) :
    Calls Try.prog 58 #[.string s] w fun e w' => e = .returned (.bool false) ∧ w' = w := by
  have b1 : decide ((s.size : Int) < 1) = false := decide_eq_false (by omega)
  have b1' : decide (s.size < 1) = false := decide_eq_false (by omega)
  have b2 : decide ((32 : Int) < (s.size : Int)) = true := by simp; omega
  have b2' : decide (32 < s.size) = true := by simp; omega
  go_enter Try.func58, Try.ntmps58
  go_wp2_with fail
  go_ret
  exact ⟨rfl, rfl⟩

section
variable {N : Nat} {w : World} {d : Nat} {s : Ds} {ρ : Rho}

set_option maxHeartbeats 400000 in
theorem xcreate_long (h : DkX N w d s ρ) (hl : s.left ≠ 0) (t : ByteArray) (hn : 32 < t.size) :
    Calls Try.prog 18 #[.pointer (some ⟨d, 0, none⟩), .string t] w fun e w' => e = .returned (.int .i64 90) ∧ w' = w := by
  obtain ⟨nb, sb, cv, h⟩ := h
  have HRF := drefuse_any w d s.left (h.blk.cell 5)
  rw [show dwn s.left = 0 from if_neg hl] at HRF
  have HNM := dname_long w t hn
  clear h hl hn
  go_enter Try.func18, Try.ntmps18
  go_wp2_with fail
  refine HRF.mono ?_
  rintro e w1 ⟨rfl, hw1⟩
  subst hw1
  clear HRF
  go_wp2_with fail
  refine HNM.mono ?_
  rintro e w2 ⟨rfl, hw2⟩
  subst hw2
  clear HNM
  go_wp2_with fail
  go_ret
  exact ⟨rfl, rfl⟩

set_option maxHeartbeats 400000 in
theorem xsync_long (h : DkX N w d s ρ) (hl : s.left ≠ 0) (t : ByteArray) (hn : 100000 < t.size) (hm : t.size ≤ maxLen) :
    Calls Try.prog 20 #[.pointer (some ⟨d, 0, none⟩), .string t] w fun e w' => e = .returned (.int .i64 92) ∧ w' = w := by
  obtain ⟨nb, sb, cv, h⟩ := h
  have HF := dfind_any h hl t hm
  have hg : getN t s.names = none := by
    cases hg : getN t s.names with
    | none => rfl
    | some f =>
      have := h.txs.2.1 _ (getN_mem hg)
      dsimp only at this
      omega
  rw [hg] at HF
  unfold fndD at HF
  clear h hl hg hn hm
  go_enter Try.func20, Try.ntmps20
  go_wp2_with fail
  refine HF.mono ?_
  rintro e w1 ⟨rfl, hw1⟩
  subst hw1
  go_wp2_with fail
  go_ret
  exact ⟨rfl, rfl⟩

end

theorem cre_left {s s' : Ds} {t : ByteArray} {f : Nat} (h : creS s t f = .ok s') (hl : s.left = -1) : s'.left = -1 ∧ s'.steps = s.steps + 1 := by
  unfold creS at h
  repeat' split at h
  all_goals cases h
  exact ⟨by show (if s.left = -1 then -1 else s.left - 1) = -1; rw [if_pos hl], rfl⟩

/-- The bytes of a file behind a crash, held against those ahead of it. -/
theorem crF_tells (x : Fl) (c : Int) (h : x.safe ≤ x.bs.length) : x.safe ≤ (crF x c).bs.length ∧ (crF x c).bs.length ≤ x.bs.length ∧ (crF x c).bs.take x.safe = x.bs.take x.safe ∧ ((∀ j, x.safe ≤ j → ∀ hj : j < (crF x c).bs.length, (crF x c).bs[j] = 0) ∨ (crF x c).bs = x.bs.take (crF x c).bs.length) := by
  have h1 := sayN_le c (x.bs.length - x.safe)
  obtain ⟨k, hk⟩ : ∃ k, k = sayN c (x.bs.length - x.safe) := ⟨_, rfl⟩
  have hl : (x.bs.take x.safe).length = x.safe := by rw [List.length_take]; omega
  unfold crF
  rw [← hk]
  rw [← hk] at h1
  dsimp only
  split
  · refine ⟨?_, ?_, ?_, .inl (fun j h2 hj => ?_)⟩
    · rw [List.length_append, hl]; omega
    · rw [List.length_append, hl, List.length_replicate]; omega
    · rw [List.take_append_of_le_length (by omega), List.take_of_length_le (by omega)]
    · rw [List.getElem_append_right (by omega)]
      simp
  · have hl2 : (x.bs.take (x.safe + k)).length = x.safe + k := by rw [List.length_take]; omega
    refine ⟨by omega, by omega, ?_, .inr ?_⟩
    · rw [List.take_take]; congr 1; omega
    · rw [hl2]

end Go.Proofs.Ytkceahdpcdfckaa

/-
  Layer 9's law DiskSafe: the walk.
-/
namespace Go.Proofs.Ytkceahdpcdfckaa
open Go.RowKit Go.Maps

theorem bel9 {w w' : World} (h : Same w w') : Below w.heap.size w w' := Kept.below h (Nat.le_refl _) (fun _ _ e => e)

/-- The state of DiskSafe's first loop. -/
structure SafL (W : World) (N d : Nat) (t : ByteArray) (f : Nat) (L : Nms) (wr : World) (v15 v17 : Value) (m : Nat) (s : Ds) (ρ : Rho) (x : Fl) : Prop where
  dk : DkX N wr d s ρ
  st : s.steps ≤ m
  sf : SfI s t f x L
  all : Off wr ρ v17 x.bs
  safe : Off wr ρ v15 (x.bs.take x.safe)
  old : Same W wr
  nn : W.heap.size ≤ N
  nw : N ≤ wr.heap.size
  len : x.bs.length ≤ 4194304

theorem Src.recap {w : World} {I : Nat → Prop} {a : Option Addr} {n c c' : Nat} {bs : List Nat} (h : Src w I (.slice a n c) bs) : Src w I (.slice a n c') bs := by
  obtain ⟨ao, cap, e, hc⟩ := h
  simp only [Value.slice.injEq] at e
  obtain ⟨rfl, rfl, rfl⟩ := e
  exact ⟨_, _, rfl, hc⟩

theorem Src.take9 {w : World} {I : Nat → Prop} {a : Option Addr} {n cap k : Nat} {bs : List Nat} (h : Src w I (.slice a n cap) bs) (hk : k ≤ bs.length) (c' : Nat) : Src w I (.slice a k c') (bs.take k) := by
  obtain ⟨ao, c, e, hs⟩ := h
  simp only [Value.slice.injEq] at e
  obtain ⟨rfl, hn, rfl⟩ := e
  refine ⟨a, c', by rw [List.length_take, Nat.min_eq_left hk], fun hne => ?_⟩
  obtain ⟨b, o, h1, h2, h3⟩ := hs (fun e => hne (by rw [e]; simp))
  refine ⟨b, o, h1, h2, fun j hj => ?_⟩
  rw [List.length_take] at hj
  rw [h3 j (by omega), List.getElem_take]

theorem eqb9 (a b : Nat) : decide (a = b) = ((a : Int) == (b : Int)) := by
  by_cases e : a = b
  · subst e; rw [decide_eq_true rfl]; exact (beq_self_eq_true _).symm
  · rw [decide_eq_false e]; exact (beq_false_of_ne (fun h => e (by omega))).symm

theorem eqc9 (a b : Nat) : (a == b) = ((a : Int) == (b : Int)) := by
  by_cases e : a = b
  · subst e; rw [beq_self_eq_true]; exact (beq_self_eq_true _).symm
  · rw [beq_false_of_ne e]; exact (beq_false_of_ne (fun h => e (by omega))).symm

theorem Src.cell9 {w : World} {I : Nat → Prop} {a : Option Addr} {n c : Nat} {bs : List Nat} (h : Src w I (.slice a n c) bs) (j : Nat) (hj : j < bs.length) : ∃ b o, a = some ⟨b, o, none⟩ ∧ w.cell? ⟨b, o + j, none⟩ = some (.int .u8 (bs[j] : Nat)) := by
  obtain ⟨ao, c', e, hs⟩ := h
  simp only [Value.slice.injEq] at e
  obtain ⟨rfl, hn, rfl⟩ := e
  obtain ⟨b, o, h1, _, h3⟩ := hs (fun e => by rw [e] at hj; simp at hj)
  exact ⟨b, o, h1, h3 j hj⟩

section
variable {W : World} {N d : Nat} {t : ByteArray} {f : Nat} {L : Nms} {w : World} {v15 v17 : Value} {m : Nat} {s : Ds} {ρ : Rho} {x : Fl}

theorem SafL.len' (h : DkX N w d s ρ) (hs : SfI s t f x L) : x.bs.length ≤ 4194304 := by
  obtain ⟨_, _, _, h9⟩ := h
  have h8 := h9.okf f (h9.nmf _ (by rw [hs.names]; exact getN_mem hs.get))
  rw [hs.fl] at h8
  have := h9.room
  omega

/-- Behind an Append that was taken. -/
theorem SafL.app (h : SafL W N d t f L w v15 v17 m s ρ x) {w1 w2 : World} {s' : Ds} {ρ' : Rho} {cs : List Nat} {v : Value} (hd : DkX N w1 d s' ρ') (hst : s'.steps ≤ m + 1) (hs : SfI s' t f ⟨x.bs ++ cs, x.safe⟩ L) (hm : MoR w ρ ρ') (hk : Kept (fun k => ρ k ≠ 0) w w1) (hk2 : Same w1 w2) (ho : Off w2 ρ' v (x.bs ++ cs)) : SafL W N d t f L w2 v15 v (m + 1) s' ρ' ⟨x.bs ++ cs, x.safe⟩ := by
  refine ⟨hd.same hk2, hst, hs, ho, ?_, Same.trans (Kept.news h.dk h.old h.nn hk) hk2, h.nn, Nat.le_trans h.nw (Nat.le_trans hk.size hk2.size), SafL.len' hd hs⟩
  show Off w2 ρ' v15 ((x.bs ++ cs).take x.safe)
  rw [List.take_append_of_le_length h.sf.le]
  exact (h.safe.step hk hm).same hk2

/-- Behind a Sync. -/
theorem SafL.syn (h : SafL W N d t f L w v15 v17 m s ρ x) {w1 : World} {s' : Ds} {ρ' : Rho} (hd : DkX N w1 d s' ρ') (hst : s'.steps ≤ m + 1) (hs : SfI s' t f ⟨x.bs, x.bs.length⟩ L) (hm : MoR w ρ ρ') (hk : Kept (fun k => ρ k ≠ 0) w w1) : SafL W N d t f L w1 v17 v17 (m + 1) s' ρ' ⟨x.bs, x.bs.length⟩ := by
  refine ⟨hd, hst, hs, h.all.step hk hm, ?_, Kept.news h.dk h.old h.nn hk, h.nn, Nat.le_trans h.nw hk.size, h.len⟩
  show Off w1 ρ' v17 (x.bs.take x.bs.length)
  rw [List.take_of_length_le (Nat.le_refl _)]
  exact h.all.step hk hm

theorem SafL.mono (h : SafL W N d t f L w v15 v17 m s ρ x) {w1 : World} {m1 : Nat} (hk : Same w w1) (hm : m ≤ m1) : SafL W N d t f L w1 v15 v17 m1 s ρ x :=
  ⟨h.dk.same hk, Nat.le_trans h.st hm, h.sf, h.all.same hk, h.safe.same hk, Same.trans h.old hk, h.nn, Nat.le_trans h.nw hk.size, h.len⟩

end

set_option maxRecDepth 100000 in
set_option maxHeartbeats 1500000 in
theorem diskSafe_all (a0 : Int) (a1 : Option Addr) (len1 cap1 : Nat) (O1 : Nat → O9) (a2 : ByteArray) (a3 : Option Addr) (len3 cap3 : Nat) (P3 : Nat → Pt9) (a4 : Option Addr) (len4 cap4 : Nat) (z4 : List Int) (a5 : Option Addr) (len5 cap5 : Nat) (z5 : List Int) (W : World)
    (_w0 : (Lit.int .i64 a0).wf = true) (h1 : Ops9 W (fun k => k < W.heap.size) a1 len1 O1) (w2 : a2.size ≤ maxLen) (h3 : Pts9 W a3 len3 P3) (w4 : IsRow .i64 W a4 len4 cap4 z4) (w5 : IsRow .i64 W a5 len5 cap5 z5) :
    Calls Try.prog 5 #[.int .i64 a0, .slice a1 len1 cap1, .string a2, .slice a3 len3 cap3, .slice a4 len4 cap4, .slice a5 len5 cap5] W fun e W' => e = .returned (.bool true) ∧ Below W.heap.size W W' := by
  clear _w0
  have HL := dlarge_any W _ a1 len1 cap1 O1 h1
  have HO : Hid (Ops9 W (fun k => k < W.heap.size) a1 len1 O1) := h1
  have H2 : Hid (a2.size ≤ maxLen) := w2
  have HP3 : Hid (Pts9 W a3 len3 P3) := h3
  have HC4 := hid (ints9 w4)
  have HC5 := hid (ints9 w5)
  clear h1 w2 h3 w4 w5
  go_enter Try.func5, Try.ntmps5
  go_wp2_with fail
  refine HL.mono ?_
  rintro e v1 ⟨rl, rfl, hrl, kv1⟩
  have HK1 : Hid (Same W v1) := kv1
  have HRL : Hid (rl = false → len1 ≤ 1000 ∧ ∀ j, j < len1 → OpSm (O1 j)) := hrl
  clear HL hrl kv1
  cases rl with
  | true =>
    go_wp2_with fail
    go_ret
    exact ⟨rfl, bel9 HK1.out⟩
  | false =>
    have HL1 : Hid (len1 ≤ 1000 ∧ ∀ j, j < len1 → OpSm (O1 j)) := hid (HRL.out rfl)
    clear HRL
    by_cases g3 : 1000 < len3
    · have e1 : decide ((1000 : Int) < (len3 : Int)) = true := by simp; omega
      have e1' : decide (1000 < len3) = true := by simp; omega
      clear g3
      go_wp2_with fail
      go_ret
      exact ⟨rfl, bel9 HK1.out⟩
    have e3 : decide ((1000 : Int) < (len3 : Int)) = false := by simp; omega
    have e3' : decide (1000 < len3) = false := by simp; omega
    have G3 := hid g3
    clear g3
    by_cases g4 : 1000 < len4
    · have e1 : decide ((1000 : Int) < (len4 : Int)) = true := by simp; omega
      have e1' : decide (1000 < len4) = true := by simp; omega
      clear g4
      go_wp2_with fail
      go_ret
      exact ⟨rfl, bel9 HK1.out⟩
    have e4 : decide ((1000 : Int) < (len4 : Int)) = false := by simp; omega
    have e4' : decide (1000 < len4) = false := by simp; omega
    clear g4
    by_cases g5 : 1000 < len5
    · have e1 : decide ((1000 : Int) < (len5 : Int)) = true := by simp; omega
      have e1' : decide (1000 < len5) = true := by simp; omega
      clear g5
      go_wp2_with fail
      go_ret
      exact ⟨rfl, bel9 HK1.out⟩
    have e5 : decide ((1000 : Int) < (len5 : Int)) = false := by simp; omega
    have e5' : decide (1000 < len5) = false := by simp; omega
    clear g5
    by_cases hroom : a0 < 1 ∨ 4194304 < a0
    · have HB := dnew_bad v1 a0 hroom
      clear hroom
      go_wp2_with fail
      refine HB.mono ?_
      rintro e v2 ⟨rfl, hv2⟩
      subst hv2
      clear HB
      go_wp2_with fail
      refine (dawake_any _).mono ?_
      rintro e v3 ⟨rfl, k3⟩
      have H3 := hid k3
      clear k3
      go_wp2_with fail
      go_ret
      exact ⟨rfl, bel9 (Same.trans HK1.out H3.out)⟩
    obtain ⟨R, hR⟩ : ∃ R : Nat, a0 = (R : Int) := ⟨a0.toNat, by omega⟩
    subst hR
    have HR1 : Hid (1 ≤ R ∧ R ≤ 4194304) := hid (by omega)
    clear hroom
    have HN1 := xnew v1 R HR1.out.1 HR1.out.2
    go_wp2_with fail
    refine HN1.mono ?_
    rintro e v2 ⟨d, ρa, rfl, D2, K2⟩
    have HD2 : Hid (DkX v1.heap.size v2 d (newD R) ρa ∧ Same W v2 ∧ W.heap.size ≤ v1.heap.size ∧ v1.heap.size ≤ v2.heap.size) := hid ⟨D2, Same.trans HK1.out K2, HK1.out.size, K2.size⟩
    clear HN1 D2 K2
    have HPL := dplay_any HD2.out.1 (by show 0 ≤ _; omega) HD2.out.2.2.2 _ a1 len1 cap1 O1 (HO.out.kept HD2.out.2.1 (fun _ _ _ f => f)) (fun k hk => Classical.byContradiction (fun h0 => by have := (HD2.out.1.new k h0).1; have := HD2.out.2.2.1; omega)) HL1.out.2 HL1.out.1
    go_wp2_with fail
    refine HPL.mono ?_
    rintro e v3 ⟨rfl, s1, ρ1, D3, _, hst3, M3, K3⟩
    have HD3 : Hid (DkX v1.heap.size v3 d s1 ρ1 ∧ Same W v3 ∧ v1.heap.size ≤ v3.heap.size ∧ s1.steps ≤ 1000) := hid ⟨D3, Kept.news HD2.out.1 HD2.out.2.1 HD2.out.2.2.1 K3, Nat.le_trans HD2.out.2.2.2 K3.size, by rw [List.length_map, List.length_range] at hst3; have h9 : (newD R).steps = 0 := rfl; have := HL1.out.1; omega⟩
    clear HPL D3 hst3 M3 K3
    have HCR := xcrash HD3.out.1 (by have := HD3.out.2.2.2; omega) HD3.out.2.2.1 _ _ [] (src_none v3) (by simp) (fun k f => f.elim)
    go_wp2_with fail
    refine HCR.mono ?_
    rintro e v4 ⟨_, hok⟩
    obtain ⟨rfl, ρ4, D4, M4, K4⟩ := hok _ rfl
    have HD4 : Hid (DkX v1.heap.size v4 d (craS s1 []) ρ4 ∧ Same W v4 ∧ v1.heap.size ≤ v4.heap.size ∧ (craS s1 []).steps ≤ 1000 ∧ (craS s1 []).left = -1) := hid ⟨D4, Kept.news HD3.out.1 HD3.out.2.1 HD2.out.2.2.1 K4, Nat.le_trans HD3.out.2.2.1 K4.size, HD3.out.2.2.2, rfl⟩
    clear HCR hok D4 M4 K4
    obtain ⟨sC, hsC⟩ : ∃ s, s = craS s1 [] := ⟨_, rfl⟩
    rw [← hsC] at HD4
    clear hsC
    by_cases hlong : 100000 < a2.size
    · have HC2 := xcreate_long HD4.out.1 (by rw [HD4.out.2.2.2.2]; decide) a2 (by omega)
      go_wp2_with fail
      refine HC2.mono ?_
      rintro e v5 ⟨rfl, hv5⟩
      subst hv5
      clear HC2
      have HSD := xsyncdir HD4.out.1 (by have := HD4.out.2.2.2.1; omega) HD4.out.2.2.1
      rw [show sydS sC = .ok (stepS { sC with safe := sC.names, chg := [] }) from if_neg (by rw [HD4.out.2.2.2.2]; decide)] at HSD
      go_wp2_with fail
      refine HSD.mono ?_
      rintro e v6 ⟨_, hok⟩
      obtain ⟨rfl, ρ6, D6, M6, K6⟩ := hok _ rfl
      have HD6 : Hid (DkX v1.heap.size v6 d (stepS { sC with safe := sC.names, chg := [] }) ρ6 ∧ Same W v6) := hid ⟨D6, Kept.news HD4.out.1 HD4.out.2.1 HD2.out.2.2.1 K6⟩
      clear HSD hok D6 M6 K6
      have HSY := xsync_long HD6.out.1 (by show (if sC.left = -1 then -1 else sC.left - 1) ≠ 0; rw [if_pos HD4.out.2.2.2.2]; decide) a2 hlong H2.out
      clear hlong
      go_wp2_with fail
      refine HSY.mono ?_
      rintro e v7 ⟨rfl, hv7⟩
      subst hv7
      clear HSY
      go_wp2_with fail
      refine (dawake_any _).mono ?_
      rintro e v8 ⟨rfl, k8⟩
      have H8 := hid k8
      clear k8
      go_wp2_with fail
      go_ret
      exact ⟨rfl, bel9 (Same.trans HD6.out.2 H8.out)⟩
    have HT : Hid (a2.size ≤ 100000) := hid (by omega)
    clear hlong
    have HC2 := xcreate HD4.out.1 (by have := HD4.out.2.2.2.1; omega) HD4.out.2.2.1 a2 HT.out
    go_wp2_with fail
    refine HC2.mono ?_
    rintro e v5 hst5
    obtain ⟨vE, ρ5, rfl, D5, M5, K5⟩ := hst5.or HD4.out.1
    obtain ⟨s5, hs5⟩ : ∃ s, s = orS sC (creS sC a2 v4.heap.size) := ⟨_, rfl⟩
    rw [← hs5] at D5
    have hs5' : s5.left = -1 ∧ s5.steps ≤ 1001 := by
      have h8 := HD4.out.2.2.2
      cases hc : creS sC a2 v4.heap.size with
      | error k => rw [hs5, hc]; exact ⟨h8.2, by show sC.steps ≤ _; omega⟩
      | ok s' =>
        have h9 := cre_left hc h8.2
        rw [hs5, hc]
        exact ⟨h9.1, by show s'.steps ≤ _; omega⟩
    have HD5 : Hid (DkX v1.heap.size v5 d s5 ρ5 ∧ Same W v5 ∧ v1.heap.size ≤ v5.heap.size ∧ s5.left = -1 ∧ s5.steps ≤ 1001) := hid ⟨D5, Kept.news HD4.out.1 HD4.out.2.1 HD2.out.2.2.1 K5, Nat.le_trans HD4.out.2.2.1 K5.size, hs5'⟩
    clear HC2 hst5 D5 M5 K5 hs5 hs5'
    have HSD := xsyncdir HD5.out.1 (by have := HD5.out.2.2.2.2; omega) HD5.out.2.2.1
    rw [show sydS s5 = .ok (stepS { s5 with safe := s5.names, chg := [] }) from if_neg (by rw [HD5.out.2.2.2.1]; decide)] at HSD
    go_wp2_with fail
    refine HSD.mono ?_
    rintro e v6 ⟨_, hok⟩
    obtain ⟨rfl, ρ6, D6, M6, K6⟩ := hok _ rfl
    obtain ⟨s6, hs6⟩ : ∃ s, s = stepS { s5 with safe := s5.names, chg := [] } := ⟨_, rfl⟩
    rw [← hs6] at D6
    have hs6' : s6.left = -1 ∧ s6.steps ≤ 1002 ∧ s6.safe = s6.names ∧ s6.chg = [] := by
      have h8 := HD5.out.2.2.2
      rw [hs6]
      exact ⟨by show (if s5.left = -1 then -1 else s5.left - 1) = -1; rw [if_pos h8.1], by show s5.steps + 1 ≤ _; omega, rfl, rfl⟩
    have HD6 : Hid (DkX v1.heap.size v6 d s6 ρ6 ∧ Same W v6 ∧ v1.heap.size ≤ v6.heap.size ∧ s6.left = -1 ∧ s6.steps ≤ 1002 ∧ s6.safe = s6.names ∧ s6.chg = []) := hid ⟨D6, Kept.news HD5.out.1 HD5.out.2.1 HD2.out.2.2.1 K6, Nat.le_trans HD5.out.2.2.1 K6.size, hs6'⟩
    clear HSD hok D6 M6 K6 hs6 hs6'
    have HSY := xsync HD6.out.1 (by have := HD6.out.2.2.2.2.1; omega) a2 HT.out
    cases hg : getN a2 s6.names with
    | none =>
      rw [show synS s6 a2 = .error 92 by unfold synS; rw [if_neg (by rw [HD6.out.2.2.2.1]; decide), hg]] at HSY
      clear hg
      go_wp2_with fail
      refine HSY.mono ?_
      rintro e v7 ⟨hno, _⟩
      obtain ⟨rfl, k7⟩ := hno 92 rfl
      have H7 := hid k7
      clear HSY hno k7
      go_wp2_with fail
      refine (dawake_any _).mono ?_
      rintro e v8 ⟨rfl, k8⟩
      have H8 := hid k8
      clear k8
      go_wp2_with fail
      go_ret
      exact ⟨rfl, bel9 (Same.trans HD6.out.2.1 (Same.trans H7.out H8.out))⟩
    | some f =>
      obtain ⟨L, hL⟩ : ∃ L, L = s6.names := ⟨_, rfl⟩
      have hok6 : (s6.fl f).safe ≤ (s6.fl f).bs.length ∧ (s6.fl f).bs.length ≤ 4194304 := by
        obtain ⟨_, _, _, h9⟩ := HD6.out.1
        have h8 := h9.okf f (h9.nmf _ (getN_mem hg))
        have := h9.room
        exact ⟨h8.1, by omega⟩
      have S6 : SfI s6 a2 f (s6.fl f) L := ⟨HD6.out.2.2.2.1, hL.symm, by rw [hL]; exact HD6.out.2.2.2.2.2.1, HD6.out.2.2.2.2.2.2, by rw [hL]; exact hg, rfl, hok6.1⟩
      obtain ⟨hsy, S7⟩ := S6.syn
      rw [hsy] at HSY
      have HS7 := hid S7
      have HLEN : Hid ((s6.fl f).bs.length ≤ 4194304) := hid hok6.2
      clear hg hL hok6 S6 hsy S7
      obtain ⟨bs0, hbs0⟩ : ∃ b, b = (s6.fl f).bs := ⟨_, rfl⟩
      rw [← hbs0] at HSY HS7 HLEN
      clear hbs0
      obtain ⟨s7, hs7⟩ : ∃ s, s = stepS { s6 with fl := updF s6.fl f ⟨bs0, bs0.length⟩ } := ⟨_, rfl⟩
      rw [← hs7] at HSY HS7
      have HST7 : Hid (s7.steps ≤ 1003) := hid (by rw [hs7]; show s6.steps + 1 ≤ _; have := HD6.out.2.2.2.2.1; omega)
      clear hs7
      go_wp2_with fail
      refine HSY.mono ?_
      rintro e v7 ⟨_, hok⟩
      obtain ⟨rfl, ρ7, D7, M7, K7⟩ := hok _ rfl
      have HD7 : Hid (DkX v1.heap.size v7 d s7 ρ7 ∧ Same W v7 ∧ v1.heap.size ≤ v7.heap.size) := hid ⟨D7, Kept.news HD6.out.1 HD6.out.2.1 HD2.out.2.2.1 K7, Nat.le_trans HD6.out.2.2.1 K7.size⟩
      clear HSY hok D7 M7 K7
      have HRD := xread HD7.out.1 a2 HT.out
      rw [HS7.out.rea] at HRD
      dsimp only at HRD
      go_wp2_with fail
      refine HRD.mono ?_
      rintro e v8 ⟨_, hok⟩
      obtain ⟨u8, rfl, hf8, _⟩ := hok _ rfl
      have HOF := Off.fresh HD7.out.1 hf8
      obtain ⟨b8, c8, hu8, _⟩ := hf8.row.shape
      obtain ⟨n8, hn8⟩ : ∃ n, n = bs0.length := ⟨_, rfl⟩
      rw [← hn8] at hu8
      subst hu8
      have HS8 : Hid (SafL W v1.heap.size d a2 f L v8 (.slice b8 n8 c8) (.slice b8 n8 c8) 2000 s7 ρ7 ⟨bs0, bs0.length⟩) := hid ⟨HD7.out.1.same hf8.kept, by have := HST7.out; omega, HS7.out, HOF, by rw [List.take_of_length_le (Nat.le_refl _)]; exact HOF, Same.trans HD7.out.2.1 hf8.kept, HD2.out.2.2.1, Nat.le_trans HD7.out.2.2 hf8.kept.size, HLEN.out⟩
      clear HRD hok hf8 hn8 HOF
      go_wp2_with fail
      go_loopg [15, 17, 18] len3 (fun qq z15 z17 z18 wr => ∃ (i : Nat) (s : Ds) (ρ : Rho) (x : Fl), z18 = .int .i64 (i : Nat) ∧ i ≤ len3 ∧ len3 - i ≤ qq ∧ (∃ a n c, z15 = .slice a n c) ∧ (∃ a n c, z17 = .slice a n c) ∧ Hid (SafL W v1.heap.size d a2 f L wr z15 z17 (2000 + 2 * i) s ρ x))
      case atStart => exact ⟨0, s7, ρ7, _, rfl, by omega, by omega, ⟨_, _, _, rfl⟩, ⟨_, _, _, rfl⟩, HS8⟩
      case round =>
        obtain ⟨i, s, ρ, x, rfl, hi, hiq, ⟨b15, n15, c15, h15⟩, ⟨b17, n17, c17, h17⟩, HI⟩ := hrel
        subst h15 h17
        by_cases hlt : i < len3
        · have c1 : decide (i < len3) = true := by simp; omega
          obtain ⟨hpo, b, o, ha, hb, hcel⟩ := HP3.out i hlt
          subst ha
          have k0 := HI.out.old.cell hcel (fun f => f)
          obtain ⟨p, hp⟩ : ∃ p, p = P3 i := ⟨_, rfl⟩
          rw [← hp] at hpo k0
          have HPO : Hid (∀ w', Same W w' → PtOk9 w' (fun k => k < W.heap.size) p) := hid (fun w' hk => ⟨hpo.src.kept hk (fun _ _ _ f => f), hpo.len, hpo.byte, hpo.nil⟩)
          have HB : Hid (b < W.heap.size) := hb
          obtain ⟨pa, pn, pc, cs⟩ := p
          dsimp only at k0
          have i1 : (0 : Int) ≤ (i : Int) := by omega
          have i2 : (i : Int) < (len3 : Int) := by omega
          have hiw : IntKind.i64.wrap ((i : Int) + 1) = ((i + 1 : Nat) : Int) := by rw [IntKind.wrap_i64]; have := G3.out; omega
          have HX : Hid (i < len3 ∧ len3 ≤ 1000) := hid ⟨hlt, by have := G3.out; omega⟩
          clear hpo hb hcel hp hlt
          by_cases gl : 65536 < pn
          · have e1 : decide ((65536 : Int) < (pn : Int)) = true := by simp; omega
            have e1' : decide (65536 < pn) = true := by simp; omega
            clear gl
            go_wp2_with fail
            go_ret
            exact ⟨rfl, bel9 HI.out.old⟩
          have e1 : decide ((65536 : Int) < (pn : Int)) = false := by simp; omega
          have e1' : decide (65536 < pn) = false := by simp; omega
          have GL := hid gl
          clear gl
          have hI0 : ∀ k, k < W.heap.size → ρ k = 0 := fun k hk => Classical.byContradiction (fun h0 => by have := (HI.out.dk.new k h0).1; have := HI.out.nn; omega)
          have hpr := HPO.out wr HI.out.old
          have hcl : cs.length ≤ 65536 := by have h9 := hpr.len; have h8 := GL.out; dsimp only at h9; omega
          have HCL : Hid (cs.length ≤ 65536) := hcl
          have HAP := xappend HI.out.dk (by have := HI.out.st; have := HX.out; omega) a2 HT.out _ (.slice pa pn pc) cs hpr.src hpr.nil (by omega) (fun k hk _ => hI0 k hk) hpr.byte HI.out.nw
          clear hI0 hpr hcl
          obtain ⟨r3, hr3⟩ : ∃ r, r = i % 3 := ⟨_, rfl⟩
          have t1 : Int.tmod (i : Int) 3 = (r3 : Int) := by rw [hr3]; exact (Int.ofNat_tmod i 3).symm
          have t1' : (i : Int) % 3 = (r3 : Int) := by rw [hr3]; exact (Int.natCast_emod i 3).symm
          have t1w : IntKind.i64.wrap (r3 : Int) = (r3 : Int) := by rw [IntKind.wrap_i64]; omega
          clear hr3
          rcases HI.out.sf.app cs with hno | ⟨s', hok', S'⟩
          case' inl =>
            rw [hno] at HAP
            clear hno
            go_upto_region 21 with fail
            go_wp2_with fail
            refine HAP.mono ?_
            rintro e y1 ⟨hno, _⟩
            obtain ⟨rfl, ky1⟩ := hno 93 rfl
            obtain ⟨s', hs'⟩ : ∃ q, q = s := ⟨_, rfl⟩
            obtain ⟨ρ', hρ'⟩ : ∃ q, q = ρ := ⟨_, rfl⟩
            obtain ⟨x', hx'⟩ : ∃ q, q = x := ⟨_, rfl⟩
            obtain ⟨b17', hb17⟩ : ∃ q, q = b17 := ⟨_, rfl⟩
            obtain ⟨n17', hn17⟩ : ∃ q, q = n17 := ⟨_, rfl⟩
            obtain ⟨c17', hc17⟩ : ∃ q, q = c17 := ⟨_, rfl⟩
            obtain ⟨y2, hy2⟩ : ∃ q, q = y1 := ⟨_, rfl⟩
            have HJ : Hid (SafL W v1.heap.size d a2 f L y2 (.slice b15 n15 c15) (.slice b17' n17' c17') (2000 + 2 * i + 1) s' ρ' x') := hid (by rw [hs', hρ', hx', hb17, hn17, hc17, hy2]; exact HI.out.mono ky1 (Nat.le_succ _))
            clear HAP hno ky1
            go_upto_region 23 with fail
            rw [← hb17, ← hn17, ← hc17, ← hy2]
            clear hs' hρ' hx' hb17 hn17 hc17 hy2
          case' inr =>
            rw [hok'] at HAP
            have hst' : s'.steps ≤ 2000 + 2 * i + 1 := by
              have h9 := opS_steps s ⟨2, a2, a2, pa, pn, pc, cs, 0, none, 0, 0, []⟩ 0
              have h8 : opS s ⟨2, a2, a2, pa, pn, pc, cs, 0, none, 0, 0, []⟩ 0 = s' := by unfold opS; dsimp only; rw [if_neg (by decide), if_pos rfl, hok']; rfl
              rw [h8] at h9
              have := HI.out.st
              omega
            have HST' : Hid (s'.steps ≤ 2000 + 2 * i + 1) := hst'
            have HS' := hid S'
            clear hok' S' hst'
            go_upto_region 21 with fail
            go_wp2_with fail
            refine HAP.mono ?_
            rintro e y1 ⟨_, hok⟩
            obtain ⟨rfl, ρ', D', M', K'⟩ := hok _ rfl
            have HY1 : Hid (DkX v1.heap.size y1 d s' ρ' ∧ MoR wr ρ ρ' ∧ Kept (fun k => ρ k ≠ 0) wr y1 ∧ Same W y1) := hid ⟨D', M', K', Kept.news HI.out.dk HI.out.old HI.out.nn K'⟩
            have hof := HI.out.all.step K' M'
            have HOF : Hid (Off y1 ρ' (.slice b17 n17 c17) x.bs) := hof
            have hnc := hof.2.2 _ _ _ rfl
            have s1 : (n17 : Int) ≤ (c17 : Int) := by omega
            have s2 : (0 : Int) ≤ (n17 : Int) := by omega
            have ky : y1.cell? ⟨b, o + i, none⟩ = some (.slice pa pn pc) := K'.cell k0 (fun h0 => by have := (HI.out.dk.new b h0).1; have := HI.out.nn; have := HB.out; omega)
            have HSA : Hid (∀ w', Same y1 w' → Src w' (fun k => ρ' k = 0 ∧ k < y1.heap.size) (.slice b17 n17 n17) x.bs) := hid (fun w' hk => (Src.recap hof.1).kept hk (fun _ _ _ f => f))
            have HNA : Hid (∀ n' c, Value.slice b17 n17 n17 = .slice none n' c → n' = 0 ∧ c = 0) := hid (fun n' c e => by
              simp only [Value.slice.injEq] at e
              obtain ⟨rfl, rfl, rfl⟩ := e
              have := hof.2.1 _ _ rfl
              omega)
            have HSB : Hid (∀ w', Same y1 w' → Src w' (fun k => k < W.heap.size) (.slice pa pn pc) cs) := hid (fun w' hk => (HPO.out w' (Same.trans HY1.out.2.2.2 hk)).src)
            have HLN : Hid (x.bs.length + cs.length ≤ 1000000000000) := hid (by have := HI.out.len; have := HCL.out; omega)
            clear HAP hok D' M' K' hof hnc
            go_upto_region 22 with fail
            go_region_held3 (fun w' => w'.cell? ⟨b, o + i, none⟩ = some (.slice pa pn pc))
              (first | (go_split_ands; assumption) | (go_split_ands; exact HK5.out.cell (by assumption) (fun f => f)) | go_keep)
              (first | (refine step_append_tight (by rfl) (.tmp 109) (.tmp 113) (by rfl) b17 n17 x.bs (by rfl) (fun k => ρ' k = 0 ∧ k < y1.heap.size) (fun k => k < W.heap.size) (HSA.out _ (by first | exact (Kept.refl _ _).drew | exact Kept.refl _ _)) HNA.out (.slice pa pn pc) cs (by rfl) (HSB.out _ (by first | exact (Kept.refl _ _).drew | exact Kept.refl _ _)) HLN.out ?_; intro v5 y2 k5 hs5 hn5 hc5 hx5; obtain ⟨b17', n17', c17', hv5⟩ := hx5; subst hv5; have HK5 := hid k5; have HS5 := hid hs5; have HN5 := hid hn5; have HQ5 := hid hc5; clear k5 hs5 hn5 hc5))
            obtain ⟨x', hx'⟩ : ∃ q : Fl, q = ⟨x.bs ++ cs, x.safe⟩ := ⟨_, rfl⟩
            have HJ : Hid (SafL W v1.heap.size d a2 f L y2 (.slice b15 n15 c15) (.slice b17' n17' c17') (2000 + 2 * i + 1) s' ρ' x') := hid (by
              rw [hx']
              have k5' : Same y1 y2 := Kept.undrew9 HK5.out
              refine HI.out.app HY1.out.1 HST'.out HS'.out HY1.out.2.1 HY1.out.2.2.1 k5' ⟨HS5.out.mono (fun k e => ?_), HN5.out, HQ5.out⟩
              rcases e with e | e
              · exact ⟨e.1, Nat.lt_of_lt_of_le e.2 k5'.size⟩
              · refine ⟨Classical.byContradiction (fun h0 => ?_), e.2⟩
                have h9 := (HY1.out.1.new k h0).2
                have h8 : y1.drew.heap.size = y1.heap.size := rfl
                omega)
            clear hx'
            go_upto_region 23 with fail
          all_goals
            have SJ := HJ.out.sf.syn
            have HSY := xsync HJ.out.dk (by have := HJ.out.st; have := HX.out; omega) a2 HT.out
            rw [SJ.1] at HSY
            obtain ⟨s9, hs9⟩ : ∃ q, q = stepS { s' with fl := updF s'.fl f ⟨x'.bs, x'.bs.length⟩ } := ⟨_, rfl⟩
            rw [← hs9] at HSY SJ
            have HS9 := hid SJ.2
            have HST9 : Hid (s9.steps ≤ 2000 + 2 * i + 1 + 1) := hid (by rw [hs9]; show s'.steps + 1 ≤ _; have := HJ.out.st; omega)
            clear SJ hs9
            by_cases g1 : r3 = 1
            · subst g1
              go_wp2_with fail
              refine HSY.mono ?_
              rintro e y3 ⟨_, hok⟩
              obtain ⟨rfl, ρ9, D9, M9, K9⟩ := hok _ rfl
              have HZ : Hid (SafL W v1.heap.size d a2 f L y3 (.slice b17' n17' c17') (.slice b17' n17' c17') (2000 + 2 * (i + 1)) s9 ρ9 ⟨x'.bs, x'.bs.length⟩) := hid ((HJ.out.syn D9 HST9.out HS9.out M9 K9).mono (Kept.refl _ _) (by omega))
              clear HSY hok D9 M9 K9
              go_wp2_with fail
              go_roundg (gk - 1)
              case measure => have := HX.out; omega
              case rel => exact ⟨i + 1, s9, ρ9, _, by go_num, by have := HX.out; omega, by have := HX.out; omega, ⟨_, _, _, rfl⟩, ⟨_, _, _, rfl⟩, HZ⟩
            · have g2 : ((r3 : Int) == 1) = false := by simp; omega
              have g2' : (r3 == 1) = false := by simp; omega
              clear g1
              go_wp2_with fail
              go_roundg (gk - 1)
              case measure => have := HX.out; omega
              case rel => exact ⟨i + 1, s', ρ', x', by go_num, by have := HX.out; omega, by have := HX.out; omega, ⟨_, _, _, rfl⟩, ⟨_, _, _, rfl⟩, hid (HJ.out.mono (Kept.refl _ _) (by omega))⟩
        · have c1 : decide (i < len3) = false := by simp; omega
          have HX : Hid (i ≤ 1000) := hid (by have := G3.out; omega)
          clear hlt hi hiq
          obtain ⟨zs4, hz4⟩ : ∃ z, z = z4.take len4 := ⟨_, rfl⟩
          rw [← hz4] at HC4
          clear hz4
          have hI0 : ∀ k, k < W.heap.size → ρ k = 0 := fun k hk => Classical.byContradiction (fun h0 => by have := (HI.out.dk.new k h0).1; have := HI.out.nn; omega)
          have HCR := xcrash HI.out.dk (by have := HI.out.st; have := HX.out; omega) HI.out.nw _ _ _ (HC4.out.1.kept HI.out.old (fun _ _ _ f => f)) HC4.out.2.2 (fun k hk _ => hI0 k hk)
          clear hI0
          go_wp2_with fail
          refine HCR.mono ?_
          rintro e y1 ⟨_, hok⟩
          obtain ⟨rfl, ρ1', D1, M1, K1⟩ := hok _ rfl
          obtain ⟨c, SC⟩ := HI.out.sf.cra zs4
          have T1 := crF_tells x c HI.out.sf.le
          have T2 := (crF_ok x c HI.out.sf.le).1
          obtain ⟨xD, hxD⟩ : ∃ q, q = crF x c := ⟨_, rfl⟩
          obtain ⟨sD, hsD⟩ : ∃ q, q = craS s zs4 := ⟨_, rfl⟩
          rw [← hxD] at SC T1 T2
          have hst : sD.steps ≤ 4000 := by rw [hsD]; show s.steps ≤ _; have := HI.out.st; have := HX.out; omega
          rw [← hsD] at SC D1
          have HT1 := hid T1
          have HD1 : Hid (DkX v1.heap.size y1 d sD ρ1' ∧ SfI sD a2 f xD L ∧ Off y1 ρ1' (.slice b17 n17 c17) x.bs ∧ Off y1 ρ1' (.slice b15 n15 c15) (x.bs.take x.safe) ∧ Same W y1 ∧ v1.heap.size ≤ y1.heap.size ∧ sD.steps ≤ 4000 ∧ xD.safe = xD.bs.length) := hid ⟨D1, SC, HI.out.all.step K1 M1, HI.out.safe.step K1 M1, Kept.news HI.out.dk HI.out.old HI.out.nn K1, Nat.le_trans HI.out.nw K1.size, hst, T2⟩
          clear HCR hok D1 M1 K1 SC T1 T2 hxD hsD hst
          have HRD := xread HD1.out.1 a2 HT.out
          rw [HD1.out.2.1.rea] at HRD
          go_wp2_with fail
          refine HRD.mono ?_
          rintro e y2 ⟨_, hok⟩
          obtain ⟨u2, rfl, hf2, _⟩ := hok _ rfl
          obtain ⟨b2, c2, hu2, _⟩ := hf2.row.shape
          obtain ⟨n2, hn2⟩ : ∃ n, n = xD.bs.length := ⟨_, rfl⟩
          rw [← hn2] at hu2
          subst hu2
          have hob := Off.fresh HD1.out.1 hf2
          have hoa := HD1.out.2.2.1.same hf2.kept
          have hos := HD1.out.2.2.2.1.same hf2.kept
          have e17 : n17 = x.bs.length := (Src.at hoa.1).1
          have e15 : n15 = x.safe := by have h9 := (Src.at hos.1).1; rw [List.length_take] at h9; have := HI.out.sf.le; omega
          have hlen := HI.out.len
          have t1 := HT1.out.1
          have t2 := HT1.out.2.1
          have f1 : decide ((n2 : Int) < (n15 : Int)) = false := by simp; omega
          have f1' : decide (n2 < n15) = false := by simp; omega
          have f2 : decide ((n17 : Int) < (n2 : Int)) = false := by simp; omega
          have f2' : decide (n17 < n2) = false := by simp; omega
          have f3 : (n15 : Int) ≤ (c2 : Int) := by have := hob.2.2 _ _ _ rfl; omega
          have f4 : (0 : Int) ≤ (n15 : Int) := by omega
          have HBY := xbytes y2 (.slice b2 n15 c2) (.slice b15 n15 c15) _ _ (xD.bs.take x.safe) (x.bs.take x.safe) (by rw [← e15]; exact Src.take9 hob.1 (by omega) c2) hos.1 (by rw [List.length_take]; omega) (by rw [List.length_take]; omega)
          rw [show decide (xD.bs.take x.safe = x.bs.take x.safe) = true from decide_eq_true HT1.out.2.2.1] at HBY
          have HD2 : Hid (DkX v1.heap.size y2 d sD ρ1' ∧ Off y2 ρ1' (.slice b2 n2 c2) xD.bs ∧ Off y2 ρ1' (.slice b17 n17 c17) x.bs ∧ Same W y2 ∧ v1.heap.size ≤ y2.heap.size) := hid ⟨HD1.out.1.same hf2.kept, hob, hoa, Same.trans HD1.out.2.2.2.2.1 hf2.kept, Nat.le_trans HD1.out.2.2.2.2.2.1 hf2.kept.size⟩
          have HNN : Hid (n17 = x.bs.length ∧ n15 = x.safe ∧ n2 = xD.bs.length ∧ n15 ≤ n2 ∧ n2 ≤ n17 ∧ n17 ≤ 4194304) := hid ⟨e17, e15, hn2, by omega, by omega, by omega⟩
          clear HRD hok hf2 hn2 hob hoa hos e17 e15 hlen t1 t2
          go_wp2_with fail
          refine HBY.mono ?_
          rintro e y3 ⟨rfl, k3⟩
          have HK3 := hid k3
          clear HBY k3
          go_wp2_with fail
          obtain ⟨HA, hHA⟩ : ∃ A : Prop, A = (∀ j, x.safe ≤ j → ∀ hj : j < xD.bs.length, xD.bs[j] = 0) := ⟨_, rfl⟩
          obtain ⟨HB, hHB⟩ : ∃ B : Prop, B = (xD.bs = x.bs.take xD.bs.length) := ⟨_, rfl⟩
          have HAB : Hid ((HA ∨ HB) ∧ (HA → ∀ j, x.safe ≤ j → ∀ hj : j < xD.bs.length, xD.bs[j] = 0) ∧ (HB → xD.bs = x.bs.take xD.bs.length)) := hid (by rw [hHA, hHB]; exact ⟨HT1.out.2.2.2, id, id⟩)
          clear hHA hHB
          go_loopg [21, 22, 23] n2 (fun qq z21 z22 z23 wz => ∃ (m : Nat) (p q : Bool), z21 = .bool p ∧ z22 = .bool q ∧ z23 = .int .i64 (m : Nat) ∧ m ≤ n2 ∧ n2 - m ≤ qq ∧ Hid ((HA → p = true) ∧ (HB → q = true) ∧ n15 ≤ m ∧ Same y2 wz))
          case atStart => exact ⟨n15, true, true, rfl, rfl, rfl, by have := HNN.out; omega, by omega, hid ⟨fun _ => rfl, fun _ => rfl, Nat.le_refl _, HK3.out⟩⟩
          case round =>
            obtain ⟨m, p, q, rfl, rfl, rfl, hm, hmq, HM⟩ := hrel
            by_cases hlt : m < n2
            · have c9 : decide (m < n2) = true := by simp; omega
              have m1 : (0 : Int) ≤ (m : Int) := by omega
              have m2 : (m : Int) < (n2 : Int) := by omega
              have m3 : (m : Int) < (n17 : Int) := by have := HNN.out; omega
              have hmw : IntKind.i64.wrap ((m : Int) + 1) = ((m + 1 : Nat) : Int) := by rw [IntKind.wrap_i64]; have := HNN.out; omega
              obtain ⟨gb, ob, hb2, cb⟩ := (HD2.out.2.1.1.kept HM.out.2.2.2 (fun _ _ _ f => f)).cell9 m (by have := HNN.out; omega)
              obtain ⟨ga, oa, ha2, ca⟩ := (HD2.out.2.2.1.1.kept HM.out.2.2.2 (fun _ _ _ f => f)).cell9 m (by have := HNN.out; omega)
              subst hb2 ha2
              have hv1 : HA → xD.bs[m]'(by have := HNN.out; omega) = 0 := fun h => HAB.out.2.1 h m (by have := HM.out.2.2.1; have := HNN.out; omega) (by have := HNN.out; omega)
              have hv2 : HB → xD.bs[m]'(by have := HNN.out; omega) = x.bs[m]'(by have := HNN.out; omega) := fun h => by
                have h9 := HAB.out.2.2 h
                have h8 : xD.bs[m]? = x.bs[m]? := by
                  rw [h9, List.getElem?_take_of_lt (by have := HNN.out; omega)]
                rw [List.getElem?_eq_getElem (by have := HNN.out; omega), List.getElem?_eq_getElem (by have := HNN.out; omega)] at h8
                exact Option.some.inj h8
              obtain ⟨xb, hxb⟩ : ∃ y, y = xD.bs[m]'(by have := HNN.out; omega) := ⟨_, rfl⟩
              obtain ⟨xa, hxa⟩ : ∃ y, y = x.bs[m]'(by have := HNN.out; omega) := ⟨_, rfl⟩
              rw [← hxb] at cb hv1 hv2
              rw [← hxa] at ca hv2
              have HV : Hid ((HA → xb = 0) ∧ (HB → xb = xa) ∧ m < n2) := hid ⟨hv1, hv2, hlt⟩
              clear hxb hxa hv1 hv2 hlt
              obtain ⟨pb, hpb⟩ : ∃ b, b = ((xb : Int) == 0) := ⟨_, rfl⟩
              obtain ⟨qb, hqb⟩ : ∃ b, b = ((xb : Int) == (xa : Int)) := ⟨_, rfl⟩
              have HPQ : Hid ((HA → pb = true) ∧ (HB → qb = true)) := hid ⟨fun h => by rw [hpb, HV.out.1 h]; rfl, fun h => by rw [hqb, HV.out.2.1 h]; simp⟩
              have p1 : ((xb : Int) == 0) = pb := hpb.symm
              have p2 : (xb == 0) = pb := by rw [hpb]; cases xb <;> rfl
              have p3 : decide (xb = 0) = pb := by rw [hpb]; cases xb <;> rfl
              have q1 : ((xb : Int) == (xa : Int)) = qb := hqb.symm
              have q2 : (xb == xa) = qb := by rw [hqb]; exact eqc9 _ _
              have q3 : decide (xb = xa) = qb := by rw [hqb]; exact eqb9 _ _
              clear hpb hqb
              cases q
              · cases p
                all_goals
                  go_upto_region 35 with fail
                  refine wp_region_noPanic ?_
                  refine wp_region_any (by kernel_rfl) ?_
                  change wpAny _ _ _ _ _ _ _ (World.drew _)
                  refine wpAny_take (i := 0) (oi := ⟨some 175, _, _, _, _, _⟩) (v := .bool false) rfl (by kernel_rfl) (by kernel_rfl) (by kernel_rfl) (fun _ _ _ h => h) (Or.inl ⟨by rfl, fun w => by rfl⟩) ?_
                  simp only [Act.put, List.setIfInBounds_toArray, List.set_cons_zero, List.set_cons_succ]
                  refine wpAny_take (i := 1) (oi := ⟨some 176, _, _, _, _, _⟩) (v := .bool false) rfl (by kernel_rfl) (by kernel_rfl) (by kernel_rfl) (fun _ _ _ h => h) (Or.inl ⟨by rfl, fun w => by rfl⟩) ?_
                  simp only [Act.put, List.setIfInBounds_toArray, List.set_cons_zero, List.set_cons_succ]
                  refine wpAny_take (i := 2) (oi := ⟨some 177, _, _, _, _, _⟩) (v := undef) rfl (by kernel_rfl) (by kernel_rfl) (by kernel_rfl) (fun _ _ _ h => h) (Or.inr ⟨by rfl, rfl⟩) ?_
                  simp only [Act.put, List.setIfInBounds_toArray, List.set_cons_zero, List.set_cons_succ]
                  refine wpAny_take (i := 3) (oi := ⟨some 178, _, _, _, _, _⟩) (v := undef) rfl (by kernel_rfl) (by kernel_rfl) (by kernel_rfl) (fun _ _ _ h => h) (Or.inr ⟨by rfl, rfl⟩) ?_
                  simp only [Act.put, List.setIfInBounds_toArray, List.set_cons_zero, List.set_cons_succ]
                  refine wpAny_take (i := 4) (oi := ⟨some 179, _, _, _, _, _⟩) (v := undef) rfl (by kernel_rfl) (by kernel_rfl) (by kernel_rfl) (fun _ _ _ h => h) (Or.inr ⟨by rfl, rfl⟩) ?_
                  simp only [Act.put, List.setIfInBounds_toArray, List.set_cons_zero, List.set_cons_succ]
                  refine wpAny_take (i := 5) (oi := ⟨some 180, _, _, _, _, _⟩) (v := undef) rfl (by kernel_rfl) (by kernel_rfl) (by kernel_rfl) (fun _ _ _ h => h) (Or.inr ⟨by rfl, rfl⟩) ?_
                  simp only [Act.put, List.setIfInBounds_toArray, List.set_cons_zero, List.set_cons_succ]
                  refine wpAny_take (i := 6) (oi := ⟨some 181, _, _, _, _, _⟩) (v := undef) rfl (by kernel_rfl) (by kernel_rfl) (by kernel_rfl) (fun _ _ _ h => h) (Or.inr ⟨by rfl, rfl⟩) ?_
                  simp only [Act.put, List.setIfInBounds_toArray, List.set_cons_zero, List.set_cons_succ]
                  refine wpAny_take (i := 7) (oi := ⟨some 182, _, _, _, _, _⟩) (v := undef) rfl (by kernel_rfl) (by kernel_rfl) (by kernel_rfl) (fun _ _ _ h => h) (Or.inr ⟨by rfl, rfl⟩) ?_
                  simp only [Act.put, List.setIfInBounds_toArray, List.set_cons_zero, List.set_cons_succ]
                  refine wpAny_take (i := 8) (oi := ⟨some 183, _, _, _, _, _⟩) (v := undef) rfl (by kernel_rfl) (by kernel_rfl) (by kernel_rfl) (fun _ _ _ h => h) (Or.inr ⟨by rfl, rfl⟩) ?_
                  simp only [Act.put, List.setIfInBounds_toArray, List.set_cons_zero, List.set_cons_succ]
                  refine wpAny_take (i := 9) (oi := ⟨some 184, _, _, _, _, _⟩) (v := undef) rfl (by kernel_rfl) (by kernel_rfl) (by kernel_rfl) (fun _ _ _ h => h) (Or.inr ⟨by rfl, rfl⟩) ?_
                  simp only [Act.put, List.setIfInBounds_toArray, List.set_cons_zero, List.set_cons_succ]
                  refine wpAny_take (i := 10) (oi := ⟨some 185, _, _, _, _, _⟩) (v := undef) rfl (by kernel_rfl) (by kernel_rfl) (by kernel_rfl) (fun _ _ _ h => h) (Or.inr ⟨by rfl, rfl⟩) ?_
                  simp only [Act.put, List.setIfInBounds_toArray, List.set_cons_zero, List.set_cons_succ]
                  refine wpAny_take (i := 11) (oi := ⟨some 186, _, _, _, _, _⟩) (v := .bool false) rfl (by kernel_rfl) (by kernel_rfl) (by kernel_rfl) (fun _ _ _ h => h) (Or.inl ⟨by rfl, fun w => by rfl⟩) ?_
                  simp only [Act.put, List.setIfInBounds_toArray, List.set_cons_zero, List.set_cons_succ]
                  refine wpAny_take (i := 12) (oi := ⟨some 22, _, _, _, _, _⟩) (v := .bool false) rfl (by kernel_rfl) (by kernel_rfl) (by kernel_rfl) (fun _ _ _ h => h) (Or.inl ⟨by rfl, fun w => by rfl⟩) ?_
                  simp only [Act.put, List.setIfInBounds_toArray, List.set_cons_zero, List.set_cons_succ]
                  refine wpAny_done (by kernel_rfl) ?_ _
                  refine NoPanic.normal ?_
                  go_wp2_with fail
                  go_roundg (gk - 1)
                  case measure => have := HV.out.2.2; omega
                  case rel => exact ⟨m + 1, _, _, rfl, rfl, by go_num, by have := HV.out.2.2; omega, by have := HV.out.2.2; omega, hid ⟨fun h => by first | exact HPQ.out.1 h | exact HM.out.1 h, fun h => by first | exact HPQ.out.2 h | exact HM.out.2.1 h, Nat.le_succ_of_le HM.out.2.2.1, HM.out.2.2.2.drew⟩⟩
              · cases p
                all_goals
                  go_upto_region 35 with fail
                  go_region_held3 (fun w' => w'.cell? ⟨gb, ob + m, none⟩ = some (.int .u8 (xb : Nat)) ∧ w'.cell? ⟨ga, oa + m, none⟩ = some (.int .u8 (xa : Nat)))
                    (first | (go_split_ands; constructor <;> assumption) | go_keep) (fail)
                  go_wp2_with fail
                  go_roundg (gk - 1)
                  case measure => have := HV.out.2.2; omega
                  case rel => exact ⟨m + 1, _, _, rfl, rfl, by go_num, by have := HV.out.2.2; omega, by have := HV.out.2.2; omega, hid ⟨fun h => by first | exact HPQ.out.1 h | exact HM.out.1 h, fun h => by first | exact HPQ.out.2 h | exact HM.out.2.1 h, Nat.le_succ_of_le HM.out.2.2.1, HM.out.2.2.2.drew⟩⟩
            · have c9 : decide (m < n2) = false := by simp; omega
              clear hlt hm hmq
              have HPQ : Hid (p = true ∨ q = true) := hid (HAB.out.1.imp HM.out.1 HM.out.2.1)
              obtain ⟨LN, hLN⟩ : ∃ l, l = L.map (·.1) := ⟨_, rfl⟩
              have HLN : Hid (namS sD = LN ∧ LN.length ≤ 1000000) := hid (by
                rw [hLN]
                refine ⟨HD1.out.2.1.nam, ?_⟩
                obtain ⟨_, _, _, h9⟩ := HD1.out.1
                have h8 := h9.lens.1
                rw [HD1.out.2.1.names] at h8
                rw [List.length_map]
                have := HD1.out.2.2.2.2.2.2.1
                omega)
              have HNA := xnames (HD2.out.1.same HM.out.2.2.2) (by have := HD1.out.2.2.2.2.2.2.1; omega)
              rw [HLN.out.1] at HNA
              go_wp2_with fail
              refine HNA.mono ?_
              rintro e y4 ⟨v4n, rfl, hr4, k4, _⟩
              have hn4 : ∀ k, v4n.ownBlock = some k → ρ1' k = 0 ∧ k < y4.heap.size := fun k e => ⟨Classical.byContradiction (fun h0 => by have := ((HD2.out.1.same HM.out.2.2.2).new k h0).2; have := hr4.ge e; omega), hr4.lt e⟩
              have h24 : Same y2 y4 := Same.trans HM.out.2.2.2 k4
              obtain ⟨a4n, c4n, hv4, _⟩ := hr4.shape
              obtain ⟨n4, hnn4⟩ : ∃ n, n = LN.length := ⟨_, rfl⟩
              rw [← hnn4] at hv4
              subst hv4
              have HR4 : Hid (RowE wr.heap.size 9 strV y4 (.slice a4n n4 c4n) LN ∧ (∀ k, (Value.slice a4n n4 c4n).ownBlock = some k → ρ1' k = 0 ∧ k < y4.heap.size) ∧ Same y2 y4) := hid ⟨hr4, hn4, h24⟩
              clear HNA hr4 k4 hn4 h24 hnn4 hLN
              obtain ⟨zs5, hz5⟩ : ∃ z, z = z5.take len5 := ⟨_, rfl⟩
              rw [← hz5] at HC5
              clear hz5
              have hd4 := HD2.out.1.same HR4.out.2.2
              have hI0 : ∀ k, k < W.heap.size → ρ1' k = 0 := fun k hk => Classical.byContradiction (fun h0 => by have := (hd4.new k h0).1; have := HI.out.nn; omega)
              have HCR := xcrash hd4 (by have := HD1.out.2.2.2.2.2.2.1; omega) (Nat.le_trans HD2.out.2.2.2.2 HR4.out.2.2.size) _ _ _ (HC5.out.1.kept (Same.trans HD2.out.2.2.2.1 HR4.out.2.2) (fun _ _ _ f => f)) HC5.out.2.2 (fun k hk _ => hI0 k hk)
              clear hd4 hI0
              go_wp2_with fail
              refine HCR.mono ?_
              rintro e y5 ⟨_, hok⟩
              obtain ⟨rfl, ρ5', D5, M5, K5⟩ := hok _ rfl
              have SE := HD1.out.2.1.cra2 HD1.out.2.2.2.2.2.2.2 zs5
              obtain ⟨sE, hsE⟩ : ∃ q, q = craS sD zs5 := ⟨_, rfl⟩
              have hst : sE.steps ≤ 4000 := by rw [hsE]; exact HD1.out.2.2.2.2.2.2.1
              rw [← hsE] at SE D5
              have HD5 : Hid (DkX v1.heap.size y5 d sE ρ5' ∧ SfI sE a2 f xD L ∧ Off y5 ρ5' (.slice b2 n2 c2) xD.bs ∧ RowE wr.heap.size 9 strV y5 (.slice a4n n4 c4n) LN ∧ Same W y5 ∧ sE.steps ≤ 4000) := hid ⟨D5, SE, (HD2.out.2.1.same HR4.out.2.2).step K5 M5, HR4.out.1.kept K5 (fun k e h0 => h0 (HR4.out.2.1 k e).1), Kept.news (HD2.out.1.same HR4.out.2.2) (Same.trans HD2.out.2.2.2.1 HR4.out.2.2) HI.out.nn K5, hst⟩
              clear HCR hok D5 M5 K5 SE hsE hst
              have HRD := xread HD5.out.1 a2 HT.out
              rw [HD5.out.2.1.rea] at HRD
              go_wp2_with fail
              refine HRD.mono ?_
              rintro e y6 ⟨_, hok⟩
              obtain ⟨u6, rfl, hf6, _⟩ := hok _ rfl
              obtain ⟨b6, c6, hu6, _⟩ := hf6.row.shape
              obtain ⟨n6, hn6⟩ : ∃ n, n = xD.bs.length := ⟨_, rfl⟩
              rw [← hn6] at hu6
              subst hu6
              have HF6 : Hid (Fresh y5 y6 (.slice b6 n6 c6) xD.bs) := hid hf6
              clear HRD hok hf6 hn6
              cases p
              case' false =>
                have hq : q = true := HPQ.out.resolve_left (by decide)
                subst hq
              all_goals
                go_wp2_with fail
                refine (dawake_any _).mono ?_
                rintro e y7 ⟨rfl, k7⟩
                have HBY := xbytes y7 (.slice b6 n6 c6) (.slice b2 n2 c2) _ _ xD.bs xD.bs ((Src.ofRow HF6.out.row).kept k7 (fun _ _ _ f => f)) ((HD5.out.2.2.1.1.kept HF6.out.kept (fun _ _ _ f => f)).kept k7 (fun _ _ _ f => f)) (by have := HNN.out; omega) (by have := HNN.out; omega)
                rw [show decide (xD.bs = xD.bs) = true from decide_eq_true rfl] at HBY
                have H7 : Hid (Same y5 y7) := hid (Same.trans HF6.out.kept k7)
                clear k7
                go_wp2_with fail
                refine HBY.mono ?_
                rintro e y8 ⟨rfl, k8⟩
                have H8 : Hid (Same y5 y8) := hid (Same.trans H7.out k8)
                clear k8 HBY
                have HNM := xnames (HD5.out.1.same H8.out) (by have := HD5.out.2.2.2.2.2; omega)
                go_wp2_with fail
                refine HNM.mono ?_
                rintro e y9 ⟨vR, rfl, hR, kR, _⟩
                have hnm : namS sE = LN := by rw [HD5.out.2.1.nam, ← HLN.out.1, HD1.out.2.1.nam]
                rw [hnm] at hR
                have HTX := xtexts_same y9 vR (.slice a4n n4 c4n) _ _ LN (SrcE.ofRow hR) (SrcE.ofRow (HD5.out.2.2.2.1.kept (Same.trans H8.out kR) (fun _ _ f => f))) HLN.out.2
                have H9 : Hid (Same y5 y9) := hid (Same.trans H8.out kR)
                obtain ⟨aR, cR, hvR, _⟩ := hR.shape
                obtain ⟨nR, hnR⟩ : ∃ n, n = LN.length := ⟨_, rfl⟩
                rw [← hnR] at hvR
                subst hvR
                clear HNM hR kR hnm hnR
                go_wp2_with fail
                refine HTX.mono ?_
                rintro e yA ⟨rfl, kA⟩
                have HA' : Hid (Same y5 yA) := hid (Same.trans H9.out kA)
                clear HTX kA
                have HDN := xdown (HD5.out.1.same HA'.out)
                rw [show (sE.left == 0) = false by rw [HD5.out.2.1.left]; decide] at HDN
                go_wp2_with fail
                refine HDN.mono ?_
                rintro e yB ⟨rfl, hyB⟩
                subst hyB
                go_wp2_with fail
                go_ret
                exact ⟨rfl, bel9 (Same.trans HD5.out.2.2.2.2.1 HA'.out)⟩

end Go.Proofs.Ytkceahdpcdfckaa
