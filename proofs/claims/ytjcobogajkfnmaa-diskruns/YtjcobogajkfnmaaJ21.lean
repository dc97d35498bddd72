/-
  Of the proof: parts DlF, DlG, DlH, DlI, DlJ, DlK, DmA, DmB, DmC, DmE, DmD.
-/
import Derived.Deep.Slices
import Derived.Deep.Strs
import Derived.Test.YtjcobogajkfnmaaJ20
import Derived.Test.YtjcobogajkfnmaaJ18
import Derived.Test.YtjcobogajkfnmaaJ19

/-
  Layer 9's law: scripts that came in.
-/
namespace Go.Proofs.Ytjcobogajkfnmaa
open Go.ChangeShapes Go.WideShapes Go.ChangeAt Go.RowKit Go.Deep Go.Maps

/-- A call of a script. -/
structure O9 where
  k : Int
  a : ByteArray
  b : ByteArray
  da : Option Addr
  dn : Nat
  dc : Nat
  bs : List Nat
  n : Int
  ca : Option Addr
  cn : Nat
  cc : Nat
  cs : List Int

instance : Inhabited O9 := ⟨⟨0, ⟨#[]⟩, ⟨#[]⟩, none, 0, 0, [], 0, none, 0, 0, []⟩⟩

/-- It can be read. -/
structure OpOk (W : World) (I : Nat → Prop) (x : O9) : Prop where
  src : Src W I (.slice x.da x.dn x.dc) x.bs
  len : x.bs.length = x.dn
  byte : ∀ b ∈ x.bs, b < 256
  nil : ∀ n c, Value.slice x.da x.dn x.dc = .slice none n c → n = 0 ∧ c = 0
  ints : SrcE intV W I (.slice x.ca x.cn x.cc) x.cs
  clen : x.cs.length = x.cn
  rng : ∀ c ∈ x.cs, -9223372036854775808 ≤ c ∧ c ≤ 9223372036854775807
  num : -9223372036854775808 ≤ x.n ∧ x.n ≤ 9223372036854775807

theorem OpOk.kept {W W' : World} {I F : Nat → Prop} {x : O9} (h : OpOk W I x) (hk : Kept F W W') (hF : ∀ k, I k → k < W.heap.size → ¬ F k) : OpOk W' I x :=
  ⟨h.src.kept hk hF, h.len, h.byte, h.nil, h.ints.kept hk hF, h.clen, h.rng, h.num⟩

def opC (x : O9) : Array Value := #[.int .i64 x.k, .string x.a, .string x.b, .slice x.da x.dn x.dc, .int .i64 x.n, .slice x.ca x.cn x.cc]

/-- The cells of a call at an address. -/
def OpAt (W : World) (b o : Nat) (x : O9) : Prop :=
  W.cell? ⟨b, o, none⟩ = some (.int .i64 x.k) ∧ W.cell? ⟨b, o + 1, none⟩ = some (.string x.a) ∧ W.cell? ⟨b, o + 2, none⟩ = some (.string x.b) ∧ W.cell? ⟨b, o + 3, none⟩ = some (.slice x.da x.dn x.dc) ∧ W.cell? ⟨b, o + 4, none⟩ = some (.int .i64 x.n) ∧ W.cell? ⟨b, o + 5, none⟩ = some (.slice x.ca x.cn x.cc)

theorem OpAt.kept {W W' : World} {F : Nat → Prop} {b o : Nat} {x : O9} (h : OpAt W b o x) (hk : Kept F W W') (hF : ¬ F b) : OpAt W' b o x :=
  ⟨hk.cell h.1 hF, hk.cell h.2.1 hF, hk.cell h.2.2.1 hF, hk.cell h.2.2.2.1 hF, hk.cell h.2.2.2.2.1 hF, hk.cell h.2.2.2.2.2 hF⟩

/-- A script. -/
def Ops9 (W : World) (I : Nat → Prop) (a : Option Addr) (len : Nat) (O : Nat → O9) : Prop :=
  ∀ j, j < len → OpOk W I (O j) ∧ ∃ b o, a = some ⟨b, o, none⟩ ∧ I b ∧ OpAt W b (o + j * 6) (O j)

theorem Ops9.kept {W W' : World} {I F : Nat → Prop} {a : Option Addr} {len : Nat} {O : Nat → O9} (h : Ops9 W I a len O) (hk : Kept F W W') (hF : ∀ k, I k → k < W.heap.size → ¬ F k) : Ops9 W' I a len O := fun j hj => by
  obtain ⟨h1, b, o, h2, h3, h4⟩ := h j hj
  exact ⟨h1.kept hk hF, b, o, h2, h3, h4.kept hk (hF b h3 (World.block_lt_of_cell? W _ h4.1))⟩

theorem Ops9.mono {W : World} {I J : Nat → Prop} {a : Option Addr} {len : Nat} {O : Nat → O9} (h : Ops9 W I a len O) (hJ : ∀ k, I k → J k) : Ops9 W J a len O := fun j hj => by
  obtain ⟨h1, b, o, h2, h3, h4⟩ := h j hj
  exact ⟨⟨h1.src.mono hJ, h1.len, h1.byte, h1.nil, h1.ints.mono hJ, h1.clen, h1.rng, h1.num⟩, b, o, h2, hJ b h3, h4⟩

theorem wf9 {n : Int} (h : (Lit.int .i64 n).wf = true) : -9223372036854775808 ≤ n ∧ n ≤ 9223372036854775807 := by
  simp [Lit.wf, IntKind.min, IntKind.max, IntKind.signed, IntKind.bits] at h
  exact h

theorem ints9 {w : World} {a : Option Addr} {len cap : Nat} {zs : List Int} (h : IsRow .i64 w a len cap zs) : SrcE intV w (fun k => k < w.heap.size) (.slice a len cap) (zs.take len) ∧ (zs.take len).length = len ∧ ∀ c ∈ zs.take len, -9223372036854775808 ≤ c ∧ c ≤ 9223372036854775807 := by
  have hl := h.len_le
  have hlen : (zs.take len).length = len := by simp; omega
  refine ⟨⟨a, cap, by rw [hlen], ?_, fun hne => ?_⟩, hlen, fun c hc => ?_⟩
  · rw [hlen]
    rcases h with ⟨_, rfl, _, _⟩ | ⟨x, _, h1, _⟩
    · exact Nat.zero_le _
    · exact h1
  · have hpos : 0 < len := by
      rcases Nat.eq_zero_or_pos len with e | e
      · subst e; simp at hne
      · exact e
    obtain ⟨b, o, rfl, hc⟩ := h.at 0 hpos
    refine ⟨b, o, rfl, World.block_lt_of_cell? w _ hc, fun j hj => ?_⟩
    obtain ⟨b', o', e, hc'⟩ := h.at j (by omega)
    simp only [Option.some.injEq, Addr.mk.injEq, and_true] at e
    obtain ⟨rfl, rfl⟩ := e
    rw [hc']
    have hz : j < zs.length := by omega
    simp [intV, List.getD, hz]
  · have hc2 := List.mem_of_mem_take hc
    rcases h with ⟨_, _, _, rfl⟩ | ⟨x, _, _, _, _, _, hw⟩
    · cases hc2
    · exact wf9 (hw c hc2)

theorem nil9 {k : IntKind} {w : World} {a : Option Addr} {len cap : Nat} {zs : List Int} (h : IsRow k w a len cap zs) : ∀ n c, Value.slice a len cap = .slice none n c → n = 0 ∧ c = 0 := by
  intro n c e
  simp only [Value.slice.injEq] at e
  obtain ⟨rfl, rfl, rfl⟩ := e
  rcases h with ⟨_, h1, h2, _⟩ | ⟨x, h1, _⟩
  · exact ⟨h1, h2⟩
  · cases h1

theorem Try.cellsOp9 : Try.prog.cellsOf 36 = 6 := by kernel_rfl
theorem Try.cells9s : Try.prog.cellsOf 9 = 1 := by kernel_rfl
theorem Try.cells9i : Try.prog.cellsOf 3 = 1 := by kernel_rfl
theorem Try.cells9b : Try.prog.cellsOf 33 = 1 := by kernel_rfl
theorem Try.cells9c : Try.prog.cellsOf 34 = 1 := by kernel_rfl
theorem Try.cells9u : Try.prog.cellsOf 5 = 1 := by kernel_rfl

theorem add_zero9 (x : Addr) : x.add 0 = x := by unfold Addr.add; simp

theorem six9 {w : World} {base : Nat} {x : Addr} {cs : List Value} (h : w.cells? base x 6 = some cs) : ∃ u0 u1 u2 u3 u4 u5, cs = [u0, u1, u2, u3, u4, u5] ∧ w.cell? (x.add 0) = some u0 ∧ w.cell? (x.add 1) = some u1 ∧ w.cell? (x.add 2) = some u2 ∧ w.cell? (x.add 3) = some u3 ∧ w.cell? (x.add 4) = some u4 ∧ w.cell? (x.add 5) = some u5 := by
  obtain ⟨_, hl, hc⟩ := World.cells?_some h
  match cs, hl with
  | [u0, u1, u2, u3, u4, u5], _ => exact ⟨u0, u1, u2, u3, u4, u5, rfl, by simpa using hc 0 (by omega), by simpa using hc 1 (by omega), by simpa using hc 2 (by omega), by simpa using hc 3 (by omega), by simpa using hc 4 (by omega), by simpa using hc 5 (by omega)⟩

theorem ops9_of {H : Type} {enc : TypeId × Value → H} {W : World} {a : Option Addr} {len cap fuel : Nat} {x : DataW H × List MemPlace} (h : DataW.trod enc Try.prog W 0 (fun _ => true) true fuel 31 [.slice a len cap] = some x) :
    ∃ O : Nat → O9, Ops9 W (fun k => k < W.heap.size) a len O := by
  rcases open_slice Try.underlying31 h with ⟨hcs, _⟩ | ⟨x0, l, c, m, n, D, Pl, hcs, _, hl, _, hm, hxx, hx⟩
  · simp only [List.cons.injEq, Value.slice.injEq, and_true] at hcs
    obtain ⟨rfl, rfl, rfl⟩ := hcs
    exact ⟨fun _ => default, fun j hj => by omega⟩
  · simp only [List.cons.injEq, Value.slice.injEq, and_true] at hcs
    obtain ⟨rfl, rfl, rfl⟩ := hcs
    simp only [if_true] at hm
    subst hm
    rw [Try.cellsOp9] at hx
    refine choose_lt (α := O9) (p := fun j y => OpOk W (fun k => k < W.heap.size) y ∧ ∃ b o, some x0 = some ⟨b, o, none⟩ ∧ b < W.heap.size ∧ OpAt W b (o + j * 6) y) (fun j hj => ?_)
    obtain ⟨cs0, hc0, _⟩ := hx 0 (by omega)
    obtain ⟨u0, _, _, _, _, _, _, hu0, _⟩ := six9 hc0
    rw [Nat.zero_mul, add_zero9] at hu0
    obtain ⟨b, o, rfl⟩ : ∃ b o, x0 = ⟨b, o, none⟩ := ⟨x0.block, x0.off, spot_none hu0⟩
    obtain ⟨cs, hc, ht⟩ := hx j (by omega)
    obtain ⟨k0, k1, k2, k3, k4, k5, rfl, h0, h1, h2, h3, h4, h5⟩ := six9 hc
    obtain ⟨xs, n', _, _, _, hlen, hf⟩ := DataW.trod_struct Try.underlying36 ht
    match xs, hlen with
    | [y0, y1, y2, y3, y4, y5], _ =>
      have c1 := Try.cells9i
      have c2 := Try.cells9s
      have c3 := Try.cells9b
      have c4 := Try.cells9c
      have t0 : DataW.trod enc Try.prog W 0 (fun _ => true) true n' 3 [k0] = some y0 := by simpa [c1, c2, c3, c4] using hf 0 _ rfl
      have t1 : DataW.trod enc Try.prog W 0 (fun _ => true) true n' 9 [k1] = some y1 := by simpa [c1, c2, c3, c4] using hf 1 _ rfl
      have t2 : DataW.trod enc Try.prog W 0 (fun _ => true) true n' 9 [k2] = some y2 := by simpa [c1, c2, c3, c4] using hf 2 _ rfl
      have t3 : DataW.trod enc Try.prog W 0 (fun _ => true) true n' 33 [k3] = some y3 := by simpa [c1, c2, c3, c4] using hf 3 _ rfl
      have t4 : DataW.trod enc Try.prog W 0 (fun _ => true) true n' 3 [k4] = some y4 := by simpa [c1, c2, c3, c4] using hf 4 _ rfl
      have t5 : DataW.trod enc Try.prog W 0 (fun _ => true) true n' 34 [k5] = some y5 := by simpa [c1, c2, c3, c4] using hf 5 _ rfl
      obtain ⟨q0, e0, _, _⟩ := DataW.trod_int Try.underlying3 t0
      obtain ⟨q1, e1, _, _⟩ := DataW.trod_string Try.underlying9 t1
      obtain ⟨q2, e2, _, _⟩ := DataW.trod_string Try.underlying9 t2
      obtain ⟨q4, e4, _, w4⟩ := DataW.trod_int Try.underlying3 t4
      simp only [List.cons.injEq, and_true] at e0 e1 e2 e4
      subst e0 e1 e2 e4
      obtain ⟨a3, n3, c3', z3, rfl, w3⟩ : ∃ a len cap zs, k3 = .slice a len cap ∧ IsRow .u8 W a len cap zs := by
        rcases open_ints Try.underlying33 Try.underlying5 Try.cells9u t3 with ⟨hcs, _⟩ | ⟨x, l, c, zs, hcs, _, hl, hm, hz, _, hcell, hwz⟩
        · simp only [List.cons.injEq, and_true] at hcs
          exact ⟨none, 0, 0, [], hcs, .inl ⟨rfl, rfl, rfl, rfl⟩⟩
        · simp only [List.cons.injEq, and_true] at hcs
          exact ⟨_, _, _, zs, hcs, .inr ⟨_, rfl, hl, hm, by simpa using hz, hcell, hwz⟩⟩
      obtain ⟨a5, n5, c5', z5, rfl, w5⟩ : ∃ a len cap zs, k5 = .slice a len cap ∧ IsRow .i64 W a len cap zs := by
        rcases open_ints Try.underlying34 Try.underlying3 Try.cells9i t5 with ⟨hcs, _⟩ | ⟨x, l, c, zs, hcs, _, hl, hm, hz, _, hcell, hwz⟩
        · simp only [List.cons.injEq, and_true] at hcs
          exact ⟨none, 0, 0, [], hcs, .inl ⟨rfl, rfl, rfl, rfl⟩⟩
        · simp only [List.cons.injEq, and_true] at hcs
          exact ⟨_, _, _, zs, hcs, .inr ⟨_, rfl, hl, hm, by simpa using hz, hcell, hwz⟩⟩
      obtain ⟨bs, hs, hbl, hb⟩ := w3.src
      have hi := ints9 w5
      rw [add_zero9, addAt] at h0
      rw [addAt, addAt] at h1 h2 h3 h4 h5
      refine ⟨⟨q0, q1, q2, a3, n3, c3', bs, q4, a5, n5, c5', z5.take n5⟩, ⟨hs, hbl, hb, nil9 w3, hi.1, hi.2.1, hi.2.2, wf9 w4⟩, b, o, rfl, World.block_lt_of_cell? W _ h0, h0, h1, h2, h3, h4, h5⟩

end Go.Proofs.Ytjcobogajkfnmaa

/-
  Layer 9's law: large.
-/
namespace Go.Proofs.Ytjcobogajkfnmaa
open Go.RowKit Go.Maps

/-- A call is not too large. -/
def OpSm (x : O9) : Prop := x.dn ≤ 65536 ∧ x.cn ≤ 1000 ∧ x.a.size ≤ 65536 ∧ x.b.size ≤ 65536

/-- What large tells. -/
def LrgA (w : World) (len : Nat) (O : Nat → O9) (e : Ending) (w' : World) : Prop := ∃ r : Bool, e = .returned (.bool r) ∧ (r = false → len ≤ 1000 ∧ ∀ j, j < len → OpSm (O j)) ∧ Same w w'

set_option maxRecDepth 100000 in
set_option maxHeartbeats 1000000 in
theorem dlarge_any (w : World) (I : Nat → Prop) (a : Option Addr) (len cap : Nat) (O : Nat → O9) (h : Ops9 w I a len O) :
    Calls Try.prog 12 #[.slice a len cap] w fun e w' => LrgA w len O e w' := by
  have HO : Hid (Ops9 w I a len O) := h
  clear h
  by_cases hl : 1000 < len
  · have b1 : decide ((1000 : Int) < (len : Int)) = true := by simp; omega
    have b1' : decide (1000 < len) = true := by simp; omega
    clear hl
    go_enter Try.func12, Try.ntmps12
    go_wp2_with fail
    go_ret
    exact ⟨true, rfl, fun h => (by cases h), Kept.refl _ _⟩
  · have b1 : decide ((1000 : Int) < (len : Int)) = false := by simp; omega
    have b1' : decide (1000 < len) = false := by simp; omega
    have HL : Hid (len ≤ 1000) := hid (by omega)
    clear hl
    go_enter Try.func12, Try.ntmps12
    go_wp2_with fail
    go_loopg [3] len (fun qq z wr => ∃ i : Nat, z = .int .i64 (i : Nat) ∧ i ≤ len ∧ len - i ≤ qq ∧ Hid (Same w wr ∧ ∀ j, j < i → OpSm (O j)))
    case atStart => exact ⟨0, rfl, by omega, by omega, hid ⟨Kept.refl _ _, fun j hj => by omega⟩⟩
    case round =>
      obtain ⟨i, rfl, hi, hiq, HI⟩ := hrel
      by_cases hlt : i < len
      · have c1 : decide (i < len) = true := by simp; omega
        obtain ⟨_, b, o, ha, _, hat⟩ := HO.out i hlt
        subst ha
        have hat := hat.kept HI.out.1 (fun f => f)
        obtain ⟨x, hx⟩ : ∃ x, x = O i := ⟨_, rfl⟩
        rw [← hx] at hat
        have HX : Hid (x = O i ∧ i < len) := hid ⟨hx, hlt⟩
        obtain ⟨k, ta, tb, da, dn, dc, bs, n, ca, cn, cc, cs⟩ := x
        obtain ⟨k0, k1, k2, k3, k4, k5⟩ := hat
        dsimp only at k0 k1 k2 k3 k4 k5
        have i1 : (0 : Int) ≤ (i : Int) := by omega
        have i2 : (i : Int) < (len : Int) := by omega
        have hiw : IntKind.i64.wrap ((i : Int) + 1) = ((i + 1 : Nat) : Int) := by rw [IntKind.wrap_i64]; have := HL.out; omega
        obtain ⟨wA, hwA⟩ : ∃ W, W = wr.alloc (.cells #[.int .i64 k, .string ta, .string tb, .slice da dn dc, .int .i64 n, .slice ca cn cc] 36) := ⟨_, rfl⟩
        obtain ⟨xb, hxb⟩ : ∃ b, b = wr.heap.size := ⟨_, rfl⟩
        have BA : Blk wA xb #[.int .i64 k, .string ta, .string tb, .slice da dn dc, .int .i64 n, .slice ca cn cc] 36 := by rw [hwA, hxb]; exact Blk.new wr _ _
        have q1 : wA.cell? ⟨xb, 1, none⟩ = some (.string ta) := BA.cell 1
        have q2 : wA.cell? ⟨xb, 2, none⟩ = some (.string tb) := BA.cell 2
        have q3 : wA.cell? ⟨xb, 3, none⟩ = some (.slice da dn dc) := BA.cell 3
        have q5 : wA.cell? ⟨xb, 5, none⟩ = some (.slice ca cn cc) := BA.cell 5
        have HKA : Hid (Same w wA) := hid (Same.trans HI.out.1 (by rw [hwA]; exact (Kept.refl _ wr).alloc _))
        clear BA hx hlt
        go_upto_region 7 with fail
        rw [← hwA, ← hxb]
        clear hwA hxb k0 k1 k2 k3 k4 k5
        by_cases g1 : 65536 < dn
        · have e1 : decide ((65536 : Int) < (dn : Int)) = true := by simp; omega
          have e1' : decide (65536 < dn) = true := by simp; omega
          clear g1
          go_wp2_with fail
          go_ret
          exact ⟨true, rfl, fun h => (by cases h), HKA.out⟩
        · have e1 : decide ((65536 : Int) < (dn : Int)) = false := by simp; omega
          have e1' : decide (65536 < dn) = false := by simp; omega
          have G1 := hid g1
          clear g1
          by_cases g2 : 1000 < cn
          · have e2 : decide ((1000 : Int) < (cn : Int)) = true := by simp; omega
            have e2' : decide (1000 < cn) = true := by simp; omega
            clear g2
            go_wp2_with fail
            go_ret
            exact ⟨true, rfl, fun h => (by cases h), HKA.out⟩
          · have e2 : decide ((1000 : Int) < (cn : Int)) = false := by simp; omega
            have e2' : decide (1000 < cn) = false := by simp; omega
            have G2 := hid g2
            clear g2
            by_cases g3 : 65536 < ta.size
            · have e3 : decide ((65536 : Int) < (ta.size : Int)) = true := by simp; omega
              have e3' : decide (65536 < ta.size) = true := by simp; omega
              clear g3
              go_wp2_with fail
              go_ret
              exact ⟨true, rfl, fun h => (by cases h), HKA.out⟩
            · have e3 : decide ((65536 : Int) < (ta.size : Int)) = false := by simp; omega
              have e3' : decide (65536 < ta.size) = false := by simp; omega
              have G3 := hid g3
              clear g3
              by_cases g4 : 65536 < tb.size
              · have e4 : decide ((65536 : Int) < (tb.size : Int)) = true := by simp; omega
                have e4' : decide (65536 < tb.size) = true := by simp; omega
                clear g4
                go_wp2_with fail
                go_ret
                exact ⟨true, rfl, fun h => (by cases h), HKA.out⟩
              · have e4 : decide ((65536 : Int) < (tb.size : Int)) = false := by simp; omega
                have e4' : decide (65536 < tb.size) = false := by simp; omega
                have HS : Hid (∀ j, j < i + 1 → OpSm (O j)) := hid (fun j hj => by
                  by_cases e : j = i
                  · rw [e, ← HX.out.1]
                    have h1 := G1.out
                    have h2 := G2.out
                    have h3 := G3.out
                    exact ⟨by show dn ≤ _; omega, by show cn ≤ _; omega, by show ta.size ≤ _; omega, by show tb.size ≤ _; omega⟩
                  · exact HI.out.2 j (by omega))
                clear g4
                go_wp2_with fail
                go_roundg (gk - 1)
                case measure => have := HX.out; omega
                case rel => exact ⟨i + 1, by go_num, by have := HX.out; omega, by have := HX.out; omega, hid ⟨HKA.out, HS.out⟩⟩
      · have c1 : decide (i < len) = false := by simp; omega
        have hE : i = len := by omega
        subst hE
        go_wp2_with fail
        go_ret
        exact ⟨false, rfl, fun _ => ⟨HL.out, HI.out.2⟩, HI.out.1⟩

end Go.Proofs.Ytjcobogajkfnmaa

/-
  Layer 9's law: play.
-/
namespace Go.Proofs.Ytjcobogajkfnmaa
open Go.RowKit Go.Maps

/-- What is left of a disk by a call. -/
def orS (s : Ds) : Except Nat Ds → Ds
  | .ok s' => s'
  | .error _ => s

/-- A disk's state behind a call of a script. -/
def opS (s : Ds) (o : O9) (f : Nat) : Ds :=
  if o.k = 1 then orS s (creS s o.a f) else if o.k = 2 then orS s (appS s o.a o.bs) else if o.k = 3 then orS s (synS s o.a) else if o.k = 4 then orS s (renS s o.a o.b) else if o.k = 5 then orS s (remS s o.a) else if o.k = 6 then orS s (sydS s) else if o.k = 8 then orS s (stpS s o.n) else if o.k = 9 then craS s o.cs else s

/-- Calls one behind the other; a new file is none of those that there are. -/
inductive PlyS : Ds → List O9 → Ds → Prop
  | nil (s : Ds) : PlyS s [] s
  | snoc {s s1 : Ds} {os : List O9} (o : O9) (f : Nat) : PlyS s os s1 → ¬ refd s1 f → PlyS s (os ++ [o]) (opS s1 o f)

theorem StpX.or {N : Nat} {w : World} {d : Nat} {s : Ds} {ρ : Rho} {r : Except Nat Ds} {e : Ending} {w' : World} (h : StpX N w d ρ r e w') (hd : DkX N w d s ρ) :
    ∃ (v : Nat) (ρ' : Rho), e = .returned (.int .i64 (v : Nat)) ∧ DkX N w' d (orS s r) ρ' ∧ MoR w ρ ρ' ∧ Kept (fun k => ρ k ≠ 0) w w' := by
  cases r with
  | error k =>
    obtain ⟨rfl, h2⟩ := h.1 k rfl
    exact ⟨k, ρ, rfl, hd.same h2, MoR.refl _ _, h2.mono (fun _ _ f => f.elim)⟩
  | ok s' =>
    obtain ⟨rfl, ρ', h2, h3, h4⟩ := h.2 s' rfl
    exact ⟨0, ρ', rfl, h2, h3, h4⟩

theorem DkX.refd {N : Nat} {w : World} {d : Nat} {s : Ds} {ρ : Rho} (h : DkX N w d s ρ) {f : Nat} (hf : Go.Proofs.Ytjcobogajkfnmaa.refd s f) : ρ f = 5 := by
  obtain ⟨nb, sb, cv, h⟩ := h
  rcases hf with ⟨p, h1, rfl⟩ | ⟨p, h1, rfl⟩ | ⟨c, h1, rfl⟩
  · exact h.nmf p h1
  · exact h.sff p h1
  · exact h.chf c h1

theorem DkX.fresh {N : Nat} {w : World} {d : Nat} {s : Ds} {ρ : Rho} (h : DkX N w d s ρ) : ¬ Go.Proofs.Ytjcobogajkfnmaa.refd s w.heap.size := fun hf => by
  have := (h.new _ (by rw [h.refd hf]; decide)).2
  omega

theorem steps_step (s : Ds) : (stepS s).steps = s.steps + 1 := rfl

theorem opS_steps (s : Ds) (o : O9) (f : Nat) : (opS s o f).steps ≤ s.steps + 1 := by
  have hor : ∀ r : Except Nat Ds, (∀ s', r = .ok s' → s'.steps ≤ s.steps + 1) → (orS s r).steps ≤ s.steps + 1 := fun r h => by
    cases r with
    | error k => exact Nat.le_succ _
    | ok s' => exact h s' rfl
  unfold opS
  split
  · refine hor _ (fun s' e => ?_)
    unfold creS at e
    repeat' split at e
    all_goals cases e
    exact Nat.le_refl _
  split
  · refine hor _ (fun s' e => ?_)
    unfold appS at e
    repeat' split at e
    all_goals cases e
    exact Nat.le_refl _
  split
  · refine hor _ (fun s' e => ?_)
    unfold synS at e
    repeat' split at e
    all_goals cases e
    exact Nat.le_refl _
  split
  · refine hor _ (fun s' e => ?_)
    unfold renS at e
    repeat' split at e
    all_goals cases e
    exact Nat.le_refl _
  split
  · refine hor _ (fun s' e => ?_)
    unfold remS at e
    repeat' split at e
    all_goals cases e
    exact Nat.le_refl _
  split
  · refine hor _ (fun s' e => ?_)
    unfold sydS at e
    repeat' split at e
    all_goals cases e
    exact Nat.le_refl _
  split
  · refine hor _ (fun s' e => ?_)
    unfold stpS at e
    repeat' split at e
    all_goals cases e
    exact Nat.le_succ _
  split
  · exact Nat.le_succ _
  · exact Nat.le_succ _

/-- What play leaves. -/
def PlyA (N : Nat) (w : World) (d : Nat) (s : Ds) (ρ : Rho) (os : List O9) (e : Ending) (w' : World) : Prop :=
  e = .returned (.tuple #[]) ∧ ∃ s' ρ', DkX N w' d s' ρ' ∧ PlyS s os s' ∧ s'.steps ≤ s.steps + os.length ∧ MoR w ρ ρ' ∧ Kept (fun k => ρ k ≠ 0) w w'

set_option maxRecDepth 100000 in
set_option maxHeartbeats 2000000 in
theorem dplay_any {N : Nat} {w : World} {d : Nat} {s : Ds} {ρ : Rho} (h : DkX N w d s ρ) (hst : s.steps ≤ 900000) (hN : N ≤ w.heap.size) (I : Nat → Prop) (a : Option Addr) (len cap : Nat) (O : Nat → O9) (ho : Ops9 w I a len O) (hI : ∀ k, I k → ρ k = 0) (hsm : ∀ j, j < len → OpSm (O j)) (hl : len ≤ 1000) :
    Calls Try.prog 16 #[.pointer (some ⟨d, 0, none⟩), .slice a len cap] w fun e w' => PlyA N w d s ρ ((List.range len).map O) e w' := by
  have HO : Hid (Ops9 w (fun k => I k ∧ k < w.heap.size) a len O) := hid (fun j hj => by
    obtain ⟨h1, b, o, h2, h3, h4⟩ := ho j hj
    refine ⟨⟨?_, h1.len, h1.byte, h1.nil, h1.ints.low, h1.clen, h1.rng, h1.num⟩, b, o, h2, ⟨h3, World.block_lt_of_cell? w _ h4.1⟩, h4⟩
    obtain ⟨ao, cp, e, hc⟩ := h1.src
    refine ⟨ao, cp, e, fun hne => ?_⟩
    obtain ⟨b, o, h2, h3, h4⟩ := hc hne
    refine ⟨b, o, h2, ⟨h3, ?_⟩, h4⟩
    exact World.block_lt_of_cell? w _ (h4 0 (List.length_pos_iff.2 hne)))
  have HD : Hid (DkX N w d s ρ) := h
  have HQ : Hid (s.steps ≤ 900000 ∧ N ≤ w.heap.size ∧ (∀ k, I k → ρ k = 0) ∧ (∀ j, j < len → OpSm (O j)) ∧ len ≤ 1000) := hid ⟨hst, hN, hI, hsm, hl⟩
  clear h hst hN ho hI hsm hl
  go_enter Try.func16, Try.ntmps16
  go_wp2_with fail
  go_loopg [4] len (fun qq z wr => ∃ (i : Nat) (s1 : Ds) (ρ1 : Rho), z = .int .i64 (i : Nat) ∧ i ≤ len ∧ len - i ≤ qq ∧ Hid (DkX N wr d s1 ρ1 ∧ PlyS s ((List.range i).map O) s1 ∧ s1.steps ≤ s.steps + i ∧ MoR w ρ ρ1 ∧ Kept (fun k => ρ k ≠ 0) w wr))
  case atStart => exact ⟨0, s, ρ, rfl, by omega, by omega, hid ⟨HD.out, PlyS.nil s, Nat.le_refl _, MoR.refl _ _, Kept.refl _ _⟩⟩
  case round =>
    obtain ⟨i, s1, ρ1, rfl, hi, hiq, HI⟩ := hrel
    by_cases hlt : i < len
    · have c1 : decide (i < len) = true := by simp; omega
      have hq := HQ.out
      obtain ⟨hok, b, o, ha, hib, hat⟩ := HO.out i hlt
      subst ha
      have hat := hat.kept HI.out.2.2.2.2 (fun f => f (hq.2.2.1 b hib.1))
      obtain ⟨x, hx⟩ : ∃ x, x = O i := ⟨_, rfl⟩
      have hsm := hq.2.2.2.1 i hlt
      rw [← hx] at hat hok hsm
      have i1 : (0 : Int) ≤ (i : Int) := by omega
      have i2 : (i : Int) < (len : Int) := by omega
      have hiw : IntKind.i64.wrap ((i : Int) + 1) = ((i + 1 : Nat) : Int) := by rw [IntKind.wrap_i64]; omega
      obtain ⟨k0, k1, k2, k3, k4, k5⟩ := hat
      obtain ⟨wA, hwA⟩ : ∃ W, W = wr.alloc (.cells #[.int .i64 x.k, .string x.a, .string x.b, .slice x.da x.dn x.dc, .int .i64 x.n, .slice x.ca x.cn x.cc] 36) := ⟨_, rfl⟩
      obtain ⟨xb, hxb⟩ : ∃ b, b = wr.heap.size := ⟨_, rfl⟩
      have BA : Blk wA xb #[.int .i64 x.k, .string x.a, .string x.b, .slice x.da x.dn x.dc, .int .i64 x.n, .slice x.ca x.cn x.cc] 36 := by rw [hwA, hxb]; exact Blk.new wr _ _
      have q0 : wA.cell? ⟨xb, 0, none⟩ = some (.int .i64 x.k) := BA.cell 0
      have q1 : wA.cell? ⟨xb, 1, none⟩ = some (.string x.a) := BA.cell 1
      have q2 : wA.cell? ⟨xb, 2, none⟩ = some (.string x.b) := BA.cell 2
      have q3 : wA.cell? ⟨xb, 3, none⟩ = some (.slice x.da x.dn x.dc) := BA.cell 3
      have q4 : wA.cell? ⟨xb, 4, none⟩ = some (.int .i64 x.n) := BA.cell 4
      have q5 : wA.cell? ⟨xb, 5, none⟩ = some (.slice x.ca x.cn x.cc) := BA.cell 5
      have kA : Same wr wA := by rw [hwA]; exact (Kept.refl _ wr).alloc _
      have DA : DkX N wA d s1 ρ1 := HI.out.1.same kA
      have hzero : ∀ k, (I k ∧ k < w.heap.size) → ρ1 k = 0 := fun k hk => by
        rcases HI.out.2.2.2.1 k with h9 | h9 | h9
        · exact h9
        · rw [h9]; exact hq.2.2.1 k hk.1
        · omega
      have hokA : OpOk wA (fun k => I k ∧ k < w.heap.size) x := (hok.kept HI.out.2.2.2.2 (fun k hk _ f => f (hq.2.2.1 k hk.1))).kept kA (fun _ _ _ f => f)
      have hNA : N ≤ wA.heap.size := Nat.le_trans hq.2.1 (Nat.le_trans HI.out.2.2.2.2.size kA.size)
      have hs1 : s1.steps ≤ 1000000 := by have := HI.out.2.2.1; omega
      have HX : Hid (x = O i ∧ i < len) := hid ⟨hx, hlt⟩
      have HDA : Hid (DkX N wA d s1 ρ1) := DA
      have HKA : Hid (Same wr wA) := kA
      have hta : x.a.size ≤ 100000 := Nat.le_trans hsm.2.2.1 (by decide)
      have htb : x.b.size ≤ 100000 := Nat.le_trans hsm.2.2.2 (by decide)
      have HCre := xcreate DA hs1 hNA x.a hta
      have HApp := xappend DA hs1 x.a hta _ _ x.bs hokA.src hokA.nil (by rw [hokA.len]; exact Nat.le_trans hsm.1 (by decide)) (fun k hk _ => hzero k hk) hokA.byte hNA
      have HSyn := xsync DA hs1 x.a hta
      have HRen := xrename DA hs1 hNA x.a x.b hta htb
      have HRem := xremove DA hs1 hNA x.a hta
      have HSyd := xsyncdir DA hs1 hNA
      have HStp := xstop DA x.n hokA.num.2
      have HCra := xcrash DA hs1 hNA _ _ x.cs hokA.ints hokA.rng (fun k hk _ => hzero k hk)
      have HFR : Hid (∀ f s2 ρ2 w2, ¬ refd s1 f → s2 = opS s1 x f → DkX N w2 d s2 ρ2 → MoR wA ρ1 ρ2 → Kept (fun k => ρ1 k ≠ 0) wA w2 → DkX N w2 d s2 ρ2 ∧ PlyS s ((List.range (i + 1)).map O) s2 ∧ s2.steps ≤ s.steps + (i + 1) ∧ MoR w ρ ρ2 ∧ Kept (fun k => ρ k ≠ 0) w w2) := hid (fun f s2 ρ2 w2 hf e hd hm hk => by
        have hi := HI.out
        refine ⟨hd, ?_, ?_, ?_, ?_⟩
        · rw [List.range_succ, List.map_append, e, hx]
          exact PlyS.snoc (O i) f hi.2.1 hf
        · rw [e]
          have h1 := opS_steps s1 x f
          have h2 := hi.2.2.1
          omega
        · have hm2 : MoR wr ρ1 ρ2 := fun k => by
            rcases hm k with h9 | h9 | h9
            · exact .inl h9
            · exact .inr (.inl h9)
            · exact .inr (.inr (Nat.le_trans kA.size h9))
          exact hi.2.2.2.1.trans hm2 hi.2.2.2.2.size
        · refine Kept.trans hi.2.2.2.2 (Kept.trans kA hk (H := fun k => ρ1 k ≠ 0) (fun _ _ f => f.elim) (fun _ _ e => e)) (fun _ _ e => e) (fun k hk2 h0 => ?_)
          rcases hi.2.2.2.1 k with h9 | h9 | h9
          · exact absurd h9 h0
          · rw [← h9]; exact h0
          · omega)
      clear hat hok hsm hq hib hx hlt kA DA hzero hokA hNA hs1 BA
      obtain ⟨k, ta, tb, da, dn, dc, bs, n, ca, cn, cc, cs⟩ := x
      dsimp only at k0 k1 k2 k3 k4 k5 q0 q1 q2 q3 q4 q5 hta htb HCre HApp HSyn HRen HRem HSyd HStp HCra
      go_upto_region 5 with fail
      rw [← hwA, ← hxb]
      clear hwA hxb k0 k1 k2 k3 k4 k5
      by_cases e1 : k = 1
      · subst e1
        clear HApp HSyn HRen HRem HSyd HStp HCra
        go_wp2_with fail
        refine HCre.mono ?_
        rintro e w2 hst2
        obtain ⟨v, ρ2, rfl, hd2, hm2, hk2⟩ := hst2.or HDA.out
        have HF := hid (HFR.out wA.heap.size _ ρ2 w2 HDA.out.fresh rfl (by exact hd2) hm2 hk2)
        clear hst2 hd2 hm2 hk2 HCre
        go_wp2_with fail
        go_roundg (gk - 1)
        case measure => have := HX.out; omega
        case rel => exact ⟨i + 1, _, ρ2, by go_num, by have := HX.out; omega, by have := HX.out; omega, HF⟩
      have f1 : (k == 1) = false := by simp [e1]
      by_cases e2 : k = 2
      · subst e2
        clear HCre HSyn HRen HRem HSyd HStp HCra
        go_wp2_with fail
        refine HApp.mono ?_
        rintro e w2 hst2
        obtain ⟨v, ρ2, rfl, hd2, hm2, hk2⟩ := hst2.or HDA.out
        have HF := hid (HFR.out wA.heap.size _ ρ2 w2 HDA.out.fresh rfl (by exact hd2) hm2 hk2)
        clear hst2 hd2 hm2 hk2 HApp
        go_wp2_with fail
        go_roundg (gk - 1)
        case measure => have := HX.out; omega
        case rel => exact ⟨i + 1, _, ρ2, by go_num, by have := HX.out; omega, by have := HX.out; omega, HF⟩
      have f2 : (k == 2) = false := by simp [e2]
      by_cases e3 : k = 3
      · subst e3
        clear HCre HApp HRen HRem HSyd HStp HCra
        go_wp2_with fail
        refine HSyn.mono ?_
        rintro e w2 hst2
        obtain ⟨v, ρ2, rfl, hd2, hm2, hk2⟩ := hst2.or HDA.out
        have HF := hid (HFR.out wA.heap.size _ ρ2 w2 HDA.out.fresh rfl (by exact hd2) hm2 hk2)
        clear hst2 hd2 hm2 hk2 HSyn
        go_wp2_with fail
        go_roundg (gk - 1)
        case measure => have := HX.out; omega
        case rel => exact ⟨i + 1, _, ρ2, by go_num, by have := HX.out; omega, by have := HX.out; omega, HF⟩
      have f3 : (k == 3) = false := by simp [e3]
      by_cases e4 : k = 4
      · subst e4
        clear HCre HApp HSyn HRem HSyd HStp HCra
        go_wp2_with fail
        refine HRen.mono ?_
        rintro e w2 hst2
        obtain ⟨v, ρ2, rfl, hd2, hm2, hk2⟩ := hst2.or HDA.out
        have HF := hid (HFR.out wA.heap.size _ ρ2 w2 HDA.out.fresh rfl (by exact hd2) hm2 hk2)
        clear hst2 hd2 hm2 hk2 HRen
        go_wp2_with fail
        go_roundg (gk - 1)
        case measure => have := HX.out; omega
        case rel => exact ⟨i + 1, _, ρ2, by go_num, by have := HX.out; omega, by have := HX.out; omega, HF⟩
      have f4 : (k == 4) = false := by simp [e4]
      by_cases e5 : k = 5
      · subst e5
        clear HCre HApp HSyn HRen HSyd HStp HCra
        go_wp2_with fail
        refine HRem.mono ?_
        rintro e w2 hst2
        obtain ⟨v, ρ2, rfl, hd2, hm2, hk2⟩ := hst2.or HDA.out
        have HF := hid (HFR.out wA.heap.size _ ρ2 w2 HDA.out.fresh rfl (by exact hd2) hm2 hk2)
        clear hst2 hd2 hm2 hk2 HRem
        go_wp2_with fail
        go_roundg (gk - 1)
        case measure => have := HX.out; omega
        case rel => exact ⟨i + 1, _, ρ2, by go_num, by have := HX.out; omega, by have := HX.out; omega, HF⟩
      have f5 : (k == 5) = false := by simp [e5]
      by_cases e6 : k = 6
      · subst e6
        clear HCre HApp HSyn HRen HRem HStp HCra
        go_wp2_with fail
        refine HSyd.mono ?_
        rintro e w2 hst2
        obtain ⟨v, ρ2, rfl, hd2, hm2, hk2⟩ := hst2.or HDA.out
        have HF := hid (HFR.out wA.heap.size _ ρ2 w2 HDA.out.fresh rfl (by exact hd2) hm2 hk2)
        clear hst2 hd2 hm2 hk2 HSyd
        go_wp2_with fail
        go_roundg (gk - 1)
        case measure => have := HX.out; omega
        case rel => exact ⟨i + 1, _, ρ2, by go_num, by have := HX.out; omega, by have := HX.out; omega, HF⟩
      have f6 : (k == 6) = false := by simp [e6]
      by_cases e8 : k = 8
      · subst e8
        clear HCre HApp HSyn HRen HRem HSyd HCra
        go_wp2_with fail
        refine HStp.mono ?_
        rintro e w2 hst2
        obtain ⟨v, ρ2, rfl, hd2, hm2, hk2⟩ := hst2.or HDA.out
        have HF := hid (HFR.out wA.heap.size _ ρ2 w2 HDA.out.fresh rfl (by exact hd2) hm2 hk2)
        clear hst2 hd2 hm2 hk2 HStp
        go_wp2_with fail
        go_roundg (gk - 1)
        case measure => have := HX.out; omega
        case rel => exact ⟨i + 1, _, ρ2, by go_num, by have := HX.out; omega, by have := HX.out; omega, HF⟩
      have f8 : (k == 8) = false := by simp [e8]
      by_cases e9 : k = 9
      · subst e9
        clear HCre HApp HSyn HRen HRem HSyd HStp
        go_wp2_with fail
        refine HCra.mono ?_
        rintro e w2 ⟨_, hok2⟩
        obtain ⟨rfl, ρ2, hd2, hm2, hk2⟩ := hok2 _ rfl
        have HF := hid (HFR.out wA.heap.size _ ρ2 w2 HDA.out.fresh rfl (by exact hd2) hm2 hk2)
        clear hok2 hd2 hm2 hk2 HCra
        go_wp2_with fail
        go_roundg (gk - 1)
        case measure => have := HX.out; omega
        case rel => exact ⟨i + 1, _, ρ2, by go_num, by have := HX.out; omega, by have := HX.out; omega, HF⟩
      have f9 : (k == 9) = false := by simp [e9]
      clear HCre HApp HSyn HRen HRem HSyd HStp HCra
      have HF := hid (HFR.out wA.heap.size _ ρ1 wA HDA.out.fresh rfl (by
        show DkX N wA d (opS s1 ⟨k, ta, tb, da, dn, dc, bs, n, ca, cn, cc, cs⟩ wA.heap.size) ρ1
        unfold opS
        dsimp only
        rw [if_neg e1, if_neg e2, if_neg e3, if_neg e4, if_neg e5, if_neg e6, if_neg e8, if_neg e9]
        exact HDA.out) (MoR.refl _ _) (Kept.refl _ _))
      clear e1 e2 e3 e4 e5 e6 e8 e9
      go_wp2_with fail
      go_roundg (gk - 1)
      case measure => have := HX.out; omega
      case rel => exact ⟨i + 1, _, ρ1, by go_num, by have := HX.out; omega, by have := HX.out; omega, HF⟩
    · have c1 : decide (i < len) = false := by simp; omega
      have hE : i = len := by omega
      subst hE
      go_wp2_with fail
      go_end0
      exact ⟨rfl, s1, ρ1, HI.out.1, HI.out.2.1, by rw [List.length_map, List.length_range]; exact HI.out.2.2.1, HI.out.2.2.2⟩

end Go.Proofs.Ytjcobogajkfnmaa

/-
  Layer 9: two disks that tell the same.
-/
namespace Go.Proofs.Ytjcobogajkfnmaa
open Go.RowKit Go.Maps

/-- A file that a name has, had when it was safe, or may get by a change. -/
def lvd (s : Ds) (f : Nat) : Prop := (∃ p ∈ s.names, p.2 = f) ∨ (∃ p ∈ s.safe, p.2 = f) ∨ ∃ c ∈ s.chg, c.dst.size ≠ 0 ∧ c.f = f

theorem lvd.refd {s : Ds} {f : Nat} (h : lvd s f) : refd s f := by
  rcases h with h | h | ⟨c, h1, _, h2⟩
  · exact .inl h
  · exact .inr (.inl h)
  · exact .inr (.inr ⟨c, h1, h2⟩)

/-- What counts of a change. -/
def nrm (φ : Nat → Nat) (c : Chg) : ByteArray × ByteArray × Option Nat := (c.src, c.dst, if c.dst.size = 0 then none else some (φ c.f))

/-- Two disks whose files answer one another. -/
structure SimD (φ : Nat → Nat) (s r : Ds) : Prop where
  room : s.room = r.room
  steps : s.steps = r.steps
  names : s.names = mapF φ r.names
  safe : s.safe = mapF φ r.safe
  chg : s.chg.map (nrm id) = r.chg.map (nrm φ)
  fl : ∀ k, lvd r k → s.fl (φ k) = r.fl k
  inj : ∀ j k, lvd r j → lvd r k → φ j = φ k → j = k

theorem getN_mapF (φ : Nat → Nat) (t : ByteArray) (L : Nms) : getN t (mapF φ L) = (getN t L).map φ := by
  unfold getN mapF
  rw [List.find?_map]
  cases h : L.find? (fun p => decide (p.1 = t)) with
  | none =>
    have : L.find? ((fun p : ByteArray × Nat => decide (p.1 = t)) ∘ fun p => (p.1, φ p.2)) = none := h
    rw [this]; rfl
  | some p =>
    have : L.find? ((fun p : ByteArray × Nat => decide (p.1 = t)) ∘ fun p => (p.1, φ p.2)) = some p := h
    rw [this]; rfl

theorem delN_mapF (φ : Nat → Nat) (t : ByteArray) (L : Nms) : delN t (mapF φ L) = mapF φ (delN t L) := by
  unfold delN mapF
  rw [List.filter_map]
  rfl

theorem insN_mapF (φ : Nat → Nat) (t : ByteArray) (f : Nat) (L : Nms) : insN (t, φ f) (mapF φ L) = mapF φ (insN (t, f) L) := by
  induction L with
  | nil => rfl
  | cons p L ih =>
    show insN (t, φ f) ((p.1, φ p.2) :: mapF φ L) = mapF φ (insN (t, f) (p :: L))
    rw [insN, insN]
    split
    · rfl
    · rw [ih]; rfl

theorem putN_mapF (φ : Nat → Nat) (t : ByteArray) (f : Nat) (L : Nms) : putN t (φ f) (mapF φ L) = mapF φ (putN t f L) := by
  unfold putN
  rw [delN_mapF, insN_mapF]

theorem appN_mapF {φ : Nat → Nat} {c c' : Chg} (h : nrm id c = nrm φ c') (L : Nms) : appN c (mapF φ L) = mapF φ (appN c' L) := by
  unfold nrm at h
  simp only [Prod.mk.injEq] at h
  obtain ⟨h1, h2, h3⟩ := h
  unfold appN
  rw [h1, h2]
  by_cases h0 : c'.dst.size = 0
  · rw [if_pos h0, if_pos h0, delN_mapF]
  · rw [if_neg h0, if_neg h0]
    rw [h2, if_neg h0, if_neg h0] at h3
    simp only [Option.some.injEq, id] at h3
    rw [h3, delN_mapF, putN_mapF]

theorem mapF_len (φ : Nat → Nat) (L : Nms) : (mapF φ L).length = L.length := List.length_map _
theorem mapF_keys (φ : Nat → Nat) (L : Nms) : (mapF φ L).map (·.1) = L.map (·.1) := by unfold mapF; rw [List.map_map]; rfl
theorem mapF_congr {φ ψ : Nat → Nat} {L : Nms} (h : ∀ p ∈ L, φ p.2 = ψ p.2) : mapF φ L = mapF ψ L := List.map_congr_left (fun p hp => by rw [h p hp])

theorem usedN_congr {φ : Nat → Nat} {s r : Ds} (h : s.names = mapF φ r.names) (hf : ∀ p ∈ r.names, s.fl (φ p.2) = r.fl p.2) : usedN s = usedN r := by
  unfold usedN
  rw [h]
  unfold mapF
  rw [List.map_map]
  congr 1
  refine List.map_congr_left (fun p hp => ?_)
  show (s.fl (φ p.2)).bs.length = (r.fl p.2).bs.length
  rw [hf p hp]

section
variable {φ : Nat → Nat} {s r : Ds}

theorem SimD.used (h : SimD φ s r) : usedN s = usedN r := usedN_congr h.names (fun p hp => h.fl _ (.inl ⟨p, hp, rfl⟩))

theorem SimD.chgLen (h : SimD φ s r) : s.chg.length = r.chg.length := by
  have := congrArg List.length h.chg
  rwa [List.length_map, List.length_map] at this

theorem SimD.nam (h : SimD φ s r) : s.names.map (·.1) = r.names.map (·.1) := by rw [h.names, mapF_keys]

/-- What two calls tell. -/
def SimR (φ : Nat → Nat) (s r : Ds) (x y : Except Nat Ds) : Prop :=
  (∃ k, x = .error k ∧ y = .error k) ∨ ∃ a b, x = .ok a ∧ y = .ok b ∧ SimD φ a b ∧ a.left = (stepS s).left ∧ b.left = (stepS r).left

theorem SimD.chgs (h : SimD φ s r) {c c' : Chg} (hc : nrm id c = nrm φ c') (hl : c'.dst.size ≠ 0 → lvd r c'.f) : SimD φ (chgS s c) (chgS r c') := by
  have hlv : ∀ k, lvd (chgS r c') k → lvd r k := fun k hk => by
    rcases hk with ⟨p, h1, h2⟩ | ⟨p, h1, h2⟩ | ⟨x, h1, h2, h3⟩
    · have h1 : p ∈ appN c' r.names := h1
      by_cases h0 : c'.dst.size = 0
      · unfold appN at h1
        rw [if_pos h0] at h1
        exact .inl ⟨p, delN_mem h1, h2⟩
      · rcases appN_mem h1 with h4 | h4
        · rw [← h2, h4]; exact hl h0
        · exact .inl ⟨p, h4, h2⟩
    · exact .inr (.inl ⟨p, h1, h2⟩)
    · have h1 : x ∈ r.chg ++ [c'] := h1
      rcases List.mem_append.1 h1 with h4 | h4
      · exact .inr (.inr ⟨x, h4, h2, h3⟩)
      · rw [List.mem_singleton.1 h4] at h2 h3
        rw [← h3]; exact hl h2
  refine ⟨h.room, by show s.steps + 1 = r.steps + 1; rw [h.steps], ?_, h.safe, ?_, fun k hk => h.fl k (hlv k hk), fun j k hj hk => h.inj j k (hlv j hj) (hlv k hk)⟩
  · show appN c s.names = mapF φ (appN c' r.names)
    rw [h.names, appN_mapF hc]
  · show (s.chg ++ [c]).map (nrm id) = (r.chg ++ [c']).map (nrm φ)
    rw [List.map_append, List.map_append, h.chg, List.map_singleton, List.map_singleton, hc]

theorem SimD.ups (h : SimD φ s r) {k : Nat} (hk : lvd r k) (x : Fl) : SimD φ (stepS { s with fl := updF s.fl (φ k) x }) (stepS { r with fl := updF r.fl k x }) := by
  refine ⟨h.room, by show s.steps + 1 = r.steps + 1; rw [h.steps], h.names, h.safe, h.chg, fun j hj => ?_, h.inj⟩
  show updF s.fl (φ k) x (φ j) = updF r.fl k x j
  unfold updF
  by_cases e : j = k
  · rw [if_pos e, e, if_pos rfl]
  · rw [if_neg e, if_neg (fun e2 => e (h.inj j k hj hk e2))]
    exact h.fl j hj

theorem SimD.get (h : SimD φ s r) (t : ByteArray) : getN t s.names = (getN t r.names).map φ := by rw [h.names, getN_mapF]

theorem SimD.app (h : SimD φ s r) (hl : s.left = 0 ↔ r.left = 0) (t : ByteArray) (bs : List Nat) : SimR φ s r (appS s t bs) (appS r t bs) := by
  unfold appS
  by_cases h0 : r.left = 0
  · rw [if_pos h0, if_pos (hl.2 h0)]; exact .inl ⟨94, rfl, rfl⟩
  · rw [if_neg h0, if_neg (fun e => h0 (hl.1 e)), h.get]
    cases hg : getN t r.names with
    | none => exact .inl ⟨92, rfl, rfl⟩
    | some k =>
      have hk : lvd r k := .inl ⟨_, getN_mem hg, rfl⟩
      dsimp only [Option.map_some]
      by_cases hc : r.room < usedN r + bs.length
      · rw [if_pos hc, if_pos (by rw [h.used, h.room]; exact hc)]
        exact .inl ⟨93, rfl, rfl⟩
      · rw [if_neg hc, if_neg (by rw [h.used, h.room]; exact hc)]
        refine .inr ⟨_, _, rfl, rfl, ?_, rfl, rfl⟩
        rw [h.fl k hk]
        exact h.ups hk ⟨(r.fl k).bs ++ bs, (r.fl k).safe⟩

theorem SimD.syn (h : SimD φ s r) (hl : s.left = 0 ↔ r.left = 0) (t : ByteArray) : SimR φ s r (synS s t) (synS r t) := by
  unfold synS
  by_cases h0 : r.left = 0
  · rw [if_pos h0, if_pos (hl.2 h0)]; exact .inl ⟨94, rfl, rfl⟩
  · rw [if_neg h0, if_neg (fun e => h0 (hl.1 e)), h.get]
    cases hg : getN t r.names with
    | none => exact .inl ⟨92, rfl, rfl⟩
    | some k =>
      have hk : lvd r k := .inl ⟨_, getN_mem hg, rfl⟩
      dsimp only [Option.map_some]
      refine .inr ⟨_, _, rfl, rfl, ?_, rfl, rfl⟩
      rw [h.fl k hk]
      exact h.ups hk ⟨(r.fl k).bs, (r.fl k).bs.length⟩

theorem SimD.ren (h : SimD φ s r) (hl : s.left = 0 ↔ r.left = 0) (t u : ByteArray) : SimR φ s r (renS s t u) (renS r t u) := by
  unfold renS
  by_cases h0 : r.left = 0
  · rw [if_pos h0, if_pos (hl.2 h0)]; exact .inl ⟨94, rfl, rfl⟩
  · rw [if_neg h0, if_neg (fun e => h0 (hl.1 e)), h.get]
    cases hg : getN t r.names with
    | none => exact .inl ⟨92, rfl, rfl⟩
    | some k =>
      have hk : lvd r k := .inl ⟨_, getN_mem hg, rfl⟩
      dsimp only [Option.map_some]
      by_cases hn : nam9 u = true
      · rw [if_pos hn, if_pos hn]
        exact .inr ⟨_, _, rfl, rfl, h.chgs rfl (fun _ => hk), rfl, rfl⟩
      · rw [if_neg hn, if_neg hn]
        exact .inl ⟨90, rfl, rfl⟩

theorem SimD.syd (h : SimD φ s r) (hl : s.left = 0 ↔ r.left = 0) : SimR φ s r (sydS s) (sydS r) := by
  unfold sydS
  by_cases h0 : r.left = 0
  · rw [if_pos h0, if_pos (hl.2 h0)]; exact .inl ⟨94, rfl, rfl⟩
  · rw [if_neg h0, if_neg (fun e => h0 (hl.1 e))]
    have hlv : ∀ k, lvd (stepS { r with safe := r.names, chg := [] }) k → lvd r k := fun k hk => by
      rcases hk with hk | hk | ⟨c, h1, _⟩
      · exact .inl hk
      · exact .inl hk
      · cases h1
    exact .inr ⟨_, _, rfl, rfl, ⟨h.room, by show s.steps + 1 = r.steps + 1; rw [h.steps], h.names, h.names, rfl, fun k hk => h.fl k (hlv k hk), fun j k hj hk => h.inj j k (hlv j hj) (hlv k hk)⟩, rfl, rfl⟩

theorem SimD.rea (h : SimD φ s r) (hl : s.left = 0 ↔ r.left = 0) (t : ByteArray) : reaS s t = reaS r t := by
  unfold reaS
  by_cases h0 : r.left = 0
  · rw [if_pos h0, if_pos (hl.2 h0)]
  · rw [if_neg h0, if_neg (fun e => h0 (hl.1 e)), h.get]
    cases hg : getN t r.names with
    | none => rfl
    | some k =>
      dsimp only [Option.map_some]
      rw [h.fl k (.inl ⟨_, getN_mem hg, rfl⟩)]

/-- The files' numbers with one more. -/
def upP (φ : Nat → Nat) (g f : Nat) : Nat → Nat := fun k => if k = g then f else φ k

theorem SimD.cre (h : SimD φ s r) (hl : s.left = 0 ↔ r.left = 0) (t : ByteArray) (f g : Nat) (hf : ¬ refd s f) (hg : ¬ lvd r g) : (∃ k, creS s t f = .error k ∧ creS r t g = .error k) ∨ ∃ a b, creS s t f = .ok a ∧ creS r t g = .ok b ∧ SimD (upP φ g f) a b ∧ a.left = (stepS s).left ∧ b.left = (stepS r).left := by
  have hne : ∀ k, lvd r k → k ≠ g := fun k hk e => hg (by rw [← e]; exact hk)
  have hup : ∀ k, lvd r k → upP φ g f k = φ k := fun k hk => if_neg (hne k hk)
  have hnm : s.names = mapF (upP φ g f) r.names := by rw [h.names]; exact mapF_congr (fun p hp => (hup _ (.inl ⟨p, hp, rfl⟩)).symm)
  have hsf : s.safe = mapF (upP φ g f) r.safe := by rw [h.safe]; exact mapF_congr (fun p hp => (hup _ (.inr (.inl ⟨p, hp, rfl⟩))).symm)
  have hch : s.chg.map (nrm id) = r.chg.map (nrm (upP φ g f)) := by
    rw [h.chg]
    refine List.map_congr_left (fun c hc => ?_)
    unfold nrm
    by_cases h0 : c.dst.size = 0
    · rw [if_pos h0, if_pos h0]
    · rw [if_neg h0, if_neg h0, hup _ (.inr (.inr ⟨c, hc, h0, rfl⟩))]
  have hrf : ∀ k, lvd r k → φ k ≠ f := fun k hk e => hf (by
    rw [← e]
    rcases hk with ⟨p, h1, h2⟩ | ⟨p, h1, h2⟩ | ⟨c, h1, h2, h3⟩
    · exact .inl ⟨(p.1, φ p.2), by rw [h.names]; exact List.mem_map.2 ⟨p, h1, rfl⟩, by rw [← h2]⟩
    · exact .inr (.inl ⟨(p.1, φ p.2), by rw [h.safe]; exact List.mem_map.2 ⟨p, h1, rfl⟩, by rw [← h2]⟩)
    · have h4 : nrm φ c ∈ s.chg.map (nrm id) := by rw [h.chg]; exact List.mem_map.2 ⟨c, h1, rfl⟩
      obtain ⟨c', h5, h6⟩ := List.mem_map.1 h4
      unfold nrm at h6
      simp only [Prod.mk.injEq] at h6
      obtain ⟨_, h7, h8⟩ := h6
      rw [h7, if_neg h2, if_neg h2] at h8
      simp only [Option.some.injEq, id] at h8
      exact .inr (.inr ⟨c', h5, by rw [h8, h3]⟩))
  unfold creS
  by_cases h0 : r.left = 0
  · rw [if_pos h0, if_pos (hl.2 h0)]; exact .inl ⟨94, rfl, rfl⟩
  · rw [if_neg h0, if_neg (fun e => h0 (hl.1 e))]
    by_cases h1 : nam9 t = false
    · rw [if_pos h1, if_pos h1]; exact .inl ⟨90, rfl, rfl⟩
    · rw [if_neg h1, if_neg h1]
      have hgn : (getN t s.names).isSome = (getN t r.names).isSome := by rw [h.get, Option.isSome_map]
      have hln : s.names.length = r.names.length := by rw [h.names, mapF_len]
      rw [hgn, hln]
      by_cases h2 : (getN t r.names).isSome = true
      · rw [if_pos h2, if_pos h2]; exact .inl ⟨91, rfl, rfl⟩
      · rw [if_neg h2, if_neg h2]
        by_cases h3 : 64 ≤ r.names.length
        · rw [if_pos h3, if_pos h3]; exact .inl ⟨95, rfl, rfl⟩
        · rw [if_neg h3, if_neg h3]
          have hg1 : upP φ g f g = f := if_pos rfl
          have hc : nrm id ⟨⟨#[]⟩, t, f⟩ = nrm (upP φ g f) ⟨⟨#[]⟩, t, g⟩ := by unfold nrm; dsimp only; rw [hg1]; rfl
          have hlv : ∀ k, lvd (chgS { r with fl := updF r.fl g ⟨[], 0⟩ } ⟨⟨#[]⟩, t, g⟩) k → lvd r k ∨ k = g := fun k hk => by
            rcases hk with ⟨p, h4, h5⟩ | ⟨p, h4, h5⟩ | ⟨x, h4, h5, h6⟩
            · rcases appN_mem h4 with h7 | h7
              · rw [h7] at h5; exact .inr h5.symm
              · exact .inl (.inl ⟨p, h7, h5⟩)
            · exact .inl (.inr (.inl ⟨p, h4, h5⟩))
            · rcases List.mem_append.1 h4 with h7 | h7
              · exact .inl (.inr (.inr ⟨x, h7, h5, h6⟩))
              · rw [List.mem_singleton.1 h7] at h6; exact .inr h6.symm
          refine .inr ⟨_, _, rfl, rfl, ⟨h.room, by show s.steps + 1 = r.steps + 1; rw [h.steps], ?_, hsf, ?_, fun k hk => ?_, fun j k hj hk e => ?_⟩, rfl, rfl⟩
          · show appN ⟨⟨#[]⟩, t, f⟩ s.names = mapF (upP φ g f) (appN ⟨⟨#[]⟩, t, g⟩ r.names)
            rw [hnm, appN_mapF hc]
          · show (s.chg ++ [_]).map (nrm id) = (r.chg ++ [_]).map (nrm (upP φ g f))
            rw [List.map_append, List.map_append, hch, List.map_singleton, List.map_singleton, hc]
          · show updF s.fl f ⟨[], 0⟩ (upP φ g f k) = updF r.fl g ⟨[], 0⟩ k
            rcases hlv k hk with h4 | h4
            · rw [hup k h4]
              unfold updF
              rw [if_neg (hrf k h4), if_neg (hne k h4)]
              exact h.fl k h4
            · rw [h4, hg1]
              unfold updF
              rw [if_pos rfl, if_pos rfl]
          · rcases hlv j hj with h4 | h4 <;> rcases hlv k hk with h5 | h5
            · rw [hup j h4, hup k h5] at e; exact h.inj j k h4 h5 e
            · rw [hup j h4, h5, hg1] at e; exact absurd e (hrf j h4)
            · rw [hup k h5, h4, hg1] at e; exact absurd e.symm (hrf k h5)
            · rw [h4, h5]

end

end Go.Proofs.Ytjcobogajkfnmaa

/-
  Layer 9: two disks that tell the same: crashes, calls of a script.
-/
namespace Go.Proofs.Ytjcobogajkfnmaa
open Go.RowKit Go.Maps

theorem foldN_mapF {φ : Nat → Nat} : ∀ (cs cs' : List Chg) (L : Nms), cs.map (nrm id) = cs'.map (nrm φ) → foldN (mapF φ L) cs = mapF φ (foldN L cs')
  | [], [], L, _ => rfl
  | [], _ :: _, L, h => by simp at h
  | _ :: _, [], L, h => by simp at h
  | c :: cs, c' :: cs', L, h => by
    simp only [List.map_cons, List.cons.injEq] at h
    show foldN (appN c (mapF φ L)) cs = mapF φ (foldN (appN c' L) cs')
    rw [appN_mapF h.1]
    exact foldN_mapF cs cs' _ h.2

theorem foldN_live (cs : List Chg) : ∀ (L : Nms) (p : ByteArray × Nat), p ∈ foldN L cs → p ∈ L ∨ ∃ c ∈ cs, c.dst.size ≠ 0 ∧ p = (c.dst, c.f) := by
  induction cs with
  | nil => intro L p h; exact .inl h
  | cons c cs ih =>
    intro L p h
    rcases ih (appN c L) p h with h | ⟨c', h1, h2⟩
    · by_cases h0 : c.dst.size = 0
      · unfold appN at h
        rw [if_pos h0] at h
        exact .inl (delN_mem h)
      · rcases appN_mem h with h | h
        · exact .inr ⟨c, List.mem_cons_self, h0, h⟩
        · exact .inl h
    · exact .inr ⟨c', List.mem_cons_of_mem _ h1, h2⟩

theorem craFl_mapF {φ : Nat → Nat} {A : Nat → Prop} (cs : List Int) (hi : ∀ j k, A j → A k → φ j = φ k → j = k) : ∀ (L : Nms) (i : Nat) (sf rf : Nat → Fl), (∀ p ∈ L, A p.2) → (∀ k, A k → sf (φ k) = rf k) → ∀ k, A k → craFl cs i (mapF φ L) sf (φ k) = craFl cs i L rf k
  | [], i, sf, rf, _, h, k, hk => h k hk
  | p :: L, i, sf, rf, hL, h, k, hk => by
    show craFl cs (i + 1) (mapF φ L) (updF sf (φ p.2) (crF (sf (φ p.2)) (pkN cs (i + 1)))) (φ k) = craFl cs (i + 1) L (updF rf p.2 (crF (rf p.2) (pkN cs (i + 1)))) k
    have hp := hL p List.mem_cons_self
    refine craFl_mapF cs hi L (i + 1) _ _ (fun q hq => hL q (List.mem_cons_of_mem _ hq)) (fun j hj => ?_) k hk
    unfold updF
    by_cases e : j = p.2
    · rw [if_pos e, e, if_pos rfl, h _ hp]
    · rw [if_neg e, if_neg (fun e2 => e (hi j p.2 hj hp e2))]
      exact h j hj

section
variable {φ : Nat → Nat} {s r : Ds}

theorem SimD.rem (h : SimD φ s r) (hl : s.left = 0 ↔ r.left = 0) (t : ByteArray) : SimR φ s r (remS s t) (remS r t) := by
  unfold remS
  by_cases h0 : r.left = 0
  · rw [if_pos h0, if_pos (hl.2 h0)]; exact .inl ⟨94, rfl, rfl⟩
  · rw [if_neg h0, if_neg (fun e => h0 (hl.1 e)), h.get]
    cases hg : getN t r.names with
    | none => exact .inl ⟨92, rfl, rfl⟩
    | some k => exact .inr ⟨_, _, rfl, rfl, h.chgs rfl (fun h => absurd rfl h), rfl, rfl⟩

theorem lvd_cra (r : Ds) (cs : List Int) (k : Nat) (hk : lvd (craS r cs) k) : lvd r k := by
  have hm : ∀ p ∈ craN r cs, lvd r p.2 := fun p hp => by
    rcases foldN_live _ _ p hp with h1 | ⟨c, h1, h2, h3⟩
    · exact .inr (.inl ⟨p, h1, rfl⟩)
    · rw [h3]; exact .inr (.inr ⟨c, List.mem_of_mem_take h1, h2, rfl⟩)
  rcases hk with ⟨p, h1, h2⟩ | ⟨p, h1, h2⟩ | ⟨c, h1, _⟩
  · rw [← h2]; exact hm p h1
  · rw [← h2]; exact hm p h1
  · cases h1

theorem SimD.cra (h : SimD φ s r) (cs : List Int) : SimD φ (craS s cs) (craS r cs) := by
  have hn : craN s cs = mapF φ (craN r cs) := by
    unfold craN
    have hk : krN s cs = krN r cs := by unfold krN; rw [h.chgLen]
    rw [hk, h.safe]
    refine foldN_mapF _ _ _ ?_
    rw [List.map_take, List.map_take, h.chg]
  refine ⟨h.room, h.steps, hn, hn, rfl, fun k hk => ?_, fun j k hj hk => h.inj j k (lvd_cra r cs j hj) (lvd_cra r cs k hk)⟩
  show craFl cs 0 (craN s cs) s.fl (φ k) = craFl cs 0 (craN r cs) r.fl k
  rw [hn]
  refine craFl_mapF (A := lvd r) cs h.inj _ 0 _ _ (fun p hp => ?_) h.fl k (lvd_cra r cs k hk)
  exact lvd_cra r cs p.2 (.inl ⟨p, hp, rfl⟩)

/-- Behind a call: no step, or one. -/
def OneL (s r a b : Ds) : Prop := (a.left = s.left ∧ b.left = r.left ∧ b.steps = r.steps) ∨ (a.left = (stepS s).left ∧ b.left = (stepS r).left ∧ b.steps = r.steps + 1)

theorem SimR.or {x y : Except Nat Ds} (h : SimR φ s r x y) (hs : SimD φ s r) (hst : ∀ b, y = .ok b → b.steps = r.steps + 1) : SimD φ (orS s x) (orS r y) ∧ OneL s r (orS s x) (orS r y) := by
  rcases h with ⟨k, rfl, rfl⟩ | ⟨a, b, rfl, rfl, h1, h2, h3⟩
  · exact ⟨hs, .inl ⟨rfl, rfl, rfl⟩⟩
  · exact ⟨h1, .inr ⟨h2, h3, hst b rfl⟩⟩

theorem SimD.op (h : SimD φ s r) (hl : s.left = 0 ↔ r.left = 0) (o : O9) (f g : Nat) (hf : ¬ refd s f) (hg : ¬ refd r g) (h8 : o.k ≠ 8) (h9 : o.k ≠ 9) : ∃ φ', SimD φ' (opS s o f) (opS r o g) ∧ OneL s r (opS s o f) (opS r o g) := by
  unfold opS
  by_cases e1 : o.k = 1
  · rw [if_pos e1, if_pos e1]
    rcases h.cre hl o.a f g hf (fun hk => hg hk.refd) with ⟨k, h1, h2⟩ | ⟨a, b, h1, h2, h3, h4, h5⟩
    · rw [h1, h2]; exact ⟨φ, h, .inl ⟨rfl, rfl, rfl⟩⟩
    · rw [h1, h2]
      refine ⟨_, h3, .inr ⟨h4, h5, ?_⟩⟩
      unfold creS at h2
      repeat' split at h2
      all_goals cases h2
      rfl
  rw [if_neg e1, if_neg e1]
  by_cases e2 : o.k = 2
  · rw [if_pos e2, if_pos e2]
    exact ⟨φ, (h.app hl o.a o.bs).or h (fun b e => by
      unfold appS at e
      repeat' split at e
      all_goals cases e
      rfl)⟩
  rw [if_neg e2, if_neg e2]
  by_cases e3 : o.k = 3
  · rw [if_pos e3, if_pos e3]
    exact ⟨φ, (h.syn hl o.a).or h (fun b e => by
      unfold synS at e
      repeat' split at e
      all_goals cases e
      rfl)⟩
  rw [if_neg e3, if_neg e3]
  by_cases e4 : o.k = 4
  · rw [if_pos e4, if_pos e4]
    exact ⟨φ, (h.ren hl o.a o.b).or h (fun b e => by
      unfold renS at e
      repeat' split at e
      all_goals cases e
      rfl)⟩
  rw [if_neg e4, if_neg e4]
  by_cases e5 : o.k = 5
  · rw [if_pos e5, if_pos e5]
    exact ⟨φ, (h.rem hl o.a).or h (fun b e => by
      unfold remS at e
      repeat' split at e
      all_goals cases e
      rfl)⟩
  rw [if_neg e5, if_neg e5]
  by_cases e6 : o.k = 6
  · rw [if_pos e6, if_pos e6]
    exact ⟨φ, (h.syd hl).or h (fun b e => by
      unfold sydS at e
      repeat' split at e
      all_goals cases e
      rfl)⟩
  rw [if_neg e6, if_neg e6, if_neg h8, if_neg h8, if_neg h9, if_neg h9]
  exact ⟨φ, h, .inl ⟨rfl, rfl, rfl⟩⟩

end

theorem sim_new (n : Nat) : SimD id (newD n) (newD n) := ⟨rfl, rfl, rfl, rfl, rfl, fun _ _ => rfl, fun _ _ _ _ e => e⟩

theorem plyS_one {s s' : Ds} {o : O9} (h : PlyS s [o] s') : ∃ f, ¬ refd s f ∧ s' = opS s o f := by
  generalize hos : [o] = os at h
  cases h with
  | nil => cases hos
  | snoc o' f h1 hf =>
    rename_i s1 os1
    have h2 : os1 = [] ∧ o' = o := by
      cases os1 with
      | nil => simp at hos; exact ⟨rfl, hos.symm⟩
      | cons x l => simp at hos
    obtain ⟨rfl, rfl⟩ := h2
    generalize hn : ([] : List O9) = l at h1
    cases h1 with
    | nil => exact ⟨f, hf, rfl⟩
    | snoc o'' f' _ _ => simp at hn

theorem stepL (s : Ds) : (stepS s).left = if s.left = -1 then -1 else s.left - 1 := rfl

/-- Texts: two rows of the same texts. -/
theorem xtexts_same (w : World) (va vb : Value) (I J : Nat → Prop) (xs : List ByteArray) (ha : SrcE strV w I va xs) (hb : SrcE strV w J vb xs) (hx : xs.length ≤ 1000000) :
    Calls Try.prog 25 #[va, vb] w fun e w' => e = .returned (.bool true) ∧ Same w w' := by
  obtain ⟨ao, ca, rfl, _, hsa⟩ := id ha
  obtain ⟨bo, cb, rfl, _, hsb⟩ := id hb
  obtain ⟨n, hn⟩ : ∃ n, n = xs.length := ⟨_, rfl⟩
  have HA : Hid (∀ j (hj : j < n), ∃ b o t, ao = some ⟨b, o, none⟩ ∧ w.cell? ⟨b, o + j, none⟩ = some (.string t) ∧ ∃ b' o', bo = some ⟨b', o', none⟩ ∧ w.cell? ⟨b', o' + j, none⟩ = some (.string t)) := hid (fun j hj => by
    have hne : xs ≠ [] := fun e => by rw [e] at hn; simp at hn; omega
    obtain ⟨b, o, h1, _, h2⟩ := hsa hne
    obtain ⟨b', o', h3, _, h4⟩ := hsb hne
    exact ⟨b, o, xs[j]'(by omega), h1, h2 j (by omega), b', o', h3, h4 j (by omega)⟩)
  have HN : Hid (n ≤ 1000000) := hid (by omega)
  rw [← hn]
  clear ha hb hsa hsb hx hn
  go_enter Try.func25, Try.ntmps25
  go_wp2_with fail
  go_loopg [5] n (fun qq z wr => ∃ i : Nat, z = .int .i64 (i : Nat) ∧ i ≤ n ∧ n - i ≤ qq ∧ Hid (Same w wr))
  case atStart => exact ⟨0, rfl, by omega, by omega, hid (Kept.refl _ _)⟩
  case round =>
    obtain ⟨i, rfl, hi, hiq, HI⟩ := hrel
    by_cases hlt : i < n
    · have c1 : decide (i < n) = true := by simp; omega
      obtain ⟨b, o, t, ha, h1, b', o', hb, h2⟩ := HA.out i hlt
      subst ha hb
      have k1 : wr.cell? ⟨b, o + i, none⟩ = some (.string t) := HI.out.cell h1 (fun f => f)
      have k2 : wr.cell? ⟨b', o' + i, none⟩ = some (.string t) := HI.out.cell h2 (fun f => f)
      have i1 : (0 : Int) ≤ (i : Int) := by omega
      have i2 : (i : Int) < (n : Int) := by omega
      have hiw : IntKind.i64.wrap ((i : Int) + 1) = ((i + 1 : Nat) : Int) := by rw [IntKind.wrap_i64]; have := HN.out; omega
      have HX : Hid (i < n) := hlt
      clear h1 h2 hlt
      go_wp2_with fail
      go_quiet (fail)
      go_wp2_with fail
      go_roundg (gk - 1)
      case measure => have := HX.out; omega
      case rel => exact ⟨i + 1, by go_num, by have := HX.out; omega, by have := HX.out; omega, hid (HI.out.drewN _)⟩
    · have c1 : decide (i < n) = false := by simp; omega
      go_wp2_with fail
      go_ret
      exact ⟨rfl, HI.out⟩

end Go.Proofs.Ytjcobogajkfnmaa

/-
  Layer 9's law DiskStops.
-/
namespace Go.Proofs.Ytjcobogajkfnmaa
open Go.RowKit Go.Maps

set_option maxHeartbeats 400000 in
theorem dused_down (w : World) (d : Nat) (h : w.cell? ⟨d, 5, none⟩ = some (.int .i64 0)) :
    Calls Try.prog 29 #[.pointer (some ⟨d, 0, none⟩)] w fun e w' => e = .returned (.int .i64 0) ∧ w' = w := by
  have HR := drefuse_any w d 0 h
  rw [show dwn 0 = 94 from rfl] at HR
  go_enter Try.func29, Try.ntmps29
  go_wp2_with fail
  refine HR.mono ?_
  rintro e w1 ⟨rfl, hw1⟩
  subst hw1
  go_wp2_with fail
  go_ret
  exact ⟨rfl, rfl⟩

/-- Used's answer. -/
def useS (s : Ds) : Nat := if s.left = 0 then 0 else usedN s

theorem xused {N : Nat} {w : World} {d : Nat} {s : Ds} {ρ : Rho} (h : DkX N w d s ρ) (hst : s.steps ≤ 1000000) :
    Calls Try.prog 29 #[.pointer (some ⟨d, 0, none⟩)] w fun e w' => e = .returned (.int .i64 (useS s : Nat)) ∧ Same w w' := by
  obtain ⟨nb, sb, cv, h⟩ := h
  by_cases hl : s.left = 0
  · have c5 : w.cell? ⟨d, 5, none⟩ = some (.int .i64 s.left) := h.blk.cell 5
    rw [hl] at c5
    refine (dused_down w d c5).mono (fun e w' hh => ⟨?_, by rw [hh.2]; exact Kept.refl _ _⟩)
    rw [hh.1, show useS s = 0 from if_pos hl]
    rfl
  · rw [show useS s = usedN s from if_neg hl]
    exact dused_any h hst hl

theorem src_none (w : World) : SrcE intV w (fun _ => False) (.slice none 0 0) [] := ⟨none, 0, rfl, Nat.le_refl _, fun h => absurd rfl h⟩

/-- The two disks of DiskStops, behind some calls. -/
structure StI (W : World) (N1 N2 d x : Nat) (m : Int) (i : Nat) (wr : World) (s r : Ds) (ρ1 ρ2 : Rho) (φ : Nat → Nat) : Prop where
  d1 : DkX N1 wr d s ρ1
  d2 : DkX N2 wr x r ρ2
  ap : ∀ k, ρ1 k = 0 ∨ ρ2 k = 0
  sim : SimD φ s r
  lr : r.left = -1
  ls : s.left = m - r.steps
  st : r.steps ≤ i
  le : (r.steps : Int) ≤ m
  old : Same W wr
  n1 : W.heap.size ≤ N1
  n2 : W.heap.size ≤ N2
  w1 : N1 ≤ wr.heap.size
  w2 : N2 ≤ wr.heap.size

/-- One call on both. -/
theorem StI.next {W : World} {N1 N2 d x : Nat} {m : Int} {i : Nat} {wr : World} {s r : Ds} {ρ1 ρ2 : Rho} {φ : Nat → Nat} (h : StI W N1 N2 d x m i wr s r ρ1 ρ2 φ) {o : O9} (h8 : o.k ≠ 8) (h9 : o.k ≠ 9) (hs : (r.steps : Int) ≠ m)
    {wa wb wc wd : World} {s' r' : Ds} {ρ1' ρ2' : Rho} (ka : Same wr wa) (p1 : PlyS s [o] s') (q1 : DkX N1 wb d s' ρ1') (m1 : MoR wa ρ1 ρ1') (k1 : Kept (fun k => ρ1 k ≠ 0) wa wb)
    (kc : Same wb wc) (p2 : PlyS r [o] r') (q2 : DkX N2 wd x r' ρ2') (m2 : MoR wc ρ2 ρ2') (k2 : Kept (fun k => ρ2 k ≠ 0) wc wd) : ∃ φ', StI W N1 N2 d x m (i + 1) wd s' r' ρ1' ρ2' φ' := by
  obtain ⟨f, hf, rfl⟩ := plyS_one p1
  obtain ⟨g, hg, rfl⟩ := plyS_one p2
  have hl0 : s.left ≠ 0 := by have := h.ls; omega
  obtain ⟨φ', hsim, hone⟩ := h.sim.op (by rw [h.lr]; exact ⟨fun e => absurd e hl0, fun e => by cases e⟩) o f g hf hg h8 h9
  have ap1 : ∀ k, ρ1' k = 0 ∨ ρ2 k = 0 := m1.apart h.ap (fun k hk => Nat.lt_of_lt_of_le (h.d2.new k hk).2 ka.size)
  have D1 : DkX N1 wd d (opS s o f) ρ1' := (q1.same kc).aside k2 (fun k => (ap1 k).symm)
  have hss := stepL s
  have hsr := stepL r
  rw [h.lr, if_pos rfl] at hsr
  rw [if_neg (by have := h.ls; have := h.le; omega)] at hss
  have hsz1 := ka.size
  have hsz2 := k1.size
  have hsz3 := kc.size
  have hsz4 := k2.size
  have h1 := h.w1
  have h2 := h.w2
  refine ⟨φ', D1, q2, fun k => (m2.apart (fun k => (ap1 k).symm) (fun k hk => Nat.lt_of_lt_of_le (q1.new k hk).2 kc.size) k).symm, hsim, ?_, ?_, ?_, ?_, ?_, h.n1, h.n2, by omega, by omega⟩
  · rcases hone with ⟨_, e, _⟩ | ⟨_, e, _⟩
    · rw [e]; exact h.lr
    · rw [e, hsr]
  · have := h.ls
    rcases hone with ⟨e1, _, e2⟩ | ⟨e1, _, e2⟩
    · rw [e1, e2]; exact this
    · rw [e1, e2, hss]; omega
  · have := h.st
    rcases hone with ⟨_, _, e2⟩ | ⟨_, _, e2⟩ <;> omega
  · have := h.le
    rcases hone with ⟨_, _, e2⟩ | ⟨_, _, e2⟩ <;> omega
  · have o1 : Same W wb := Kept.news (h.d1.same ka) (Same.trans h.old ka) h.n1 k1
    have o2 : Same W wc := Same.trans o1 kc
    have d2' : DkX N2 wc x r ρ2 := ((h.d2.same ka).aside k1 h.ap).same kc
    exact Kept.news d2' o2 h.n2 k2

end Go.Proofs.Ytjcobogajkfnmaa

/-
  Layer 9: the reference's disk in memory; Down, Names, Used.
-/
namespace Go.Proofs.Ytjcobogajkfnmaa
open Go.RowKit Go.Maps

/-- A file of the reference. -/
structure Fv where
  a : Option Addr
  n : Nat
  c : Nat
  bs : List Nat
  safe : Nat

instance : Inhabited Fv := ⟨⟨none, 0, 0, [], 0⟩⟩

def fvE (x : Fv) : List Value := [.slice x.a x.n x.c, .int .i64 (x.safe : Nat)]
theorem fvE_ok : EncOk fvE 2 := ⟨fun _ => rfl, fun x u hu => by simp [fvE] at hu; rcases hu with rfl | rfl <;> rfl, by decide⟩
def nnE (p : ByteArray × Nat) : List Value := [.string p.1, .int .i64 (p.2 : Nat)]
theorem nnE_ok : EncOk nnE 2 := ⟨fun _ => rfl, fun x u hu => by simp [nnE] at hu; rcases hu with rfl | rfl <;> rfl, by decide⟩

/-- The kind of a change. -/
def kdN (c : Chg) : Nat := if c.dst.size = 0 then 3 else if c.src.size = 0 then 1 else 2
def rcE (c : Chg) : List Value := [.int .i64 (kdN c : Nat), .string c.src, .string c.dst, .int .i64 (c.f : Nat)]
theorem rcE_ok : EncOk rcE 4 := ⟨fun _ => rfl, fun x u hu => by simp [rcE] at hu; rcases hu with rfl | rfl | rfl | rfl <;> rfl, by decide⟩

/-- A file's value is right. -/
structure FvOk (w : World) (ρ : Rho) (room : Nat) (x : Fv) : Prop where
  src : Src w (fun j => ρ j = 9) (.slice x.a x.n x.c) x.bs
  len : x.bs.length = x.n
  nil : ∀ n c, Value.slice x.a x.n x.c = .slice none n c → n = 0 ∧ c = 0
  cap : x.n ≤ x.c
  safe : x.safe ≤ x.n
  byte : ∀ b ∈ x.bs, b < 256
  room : x.n ≤ room

/-- The reference's disk in memory. -/
structure Rf (N : Nat) (w : World) (r : Nat) (s : Ds) (F : List Fv) (ρ : Rho) (fv nv sv cv : Value) : Prop where
  blk : Blk w r #[.int .i64 (s.room : Nat), fv, nv, sv, cv, .int .i64 (s.steps : Nat), .int .i64 s.left] 67
  fil : RowC N 80 2 fvE w fv F
  now : RowC N 99 2 nnE w nv s.names
  saf : RowC N 99 2 nnE w sv s.safe
  chg : RowC N 83 4 rcE w cv s.chg
  fl : ∀ k x, F[k]? = some x → s.fl k = ⟨x.bs, x.safe⟩ ∧ FvOk w ρ s.room x
  nmf : ∀ p ∈ s.names, p.2 < F.length
  sff : ∀ p ∈ s.safe, p.2 < F.length
  chf : ∀ c ∈ s.chg, c.f < F.length ∨ (c.dst.size = 0 ∧ c.f = 0)
  rb : ρ r = 1
  rf : ∀ k, fv.ownBlock = some k → ρ k = 2
  rn : ∀ k, nv.ownBlock = some k → ρ k = 3
  rs : ∀ k, sv.ownBlock = some k → ρ k = 4
  rc : ∀ k, cv.ownBlock = some k → ρ k = 5
  new : ∀ k, ρ k ≠ 0 → N ≤ k ∧ k < w.heap.size
  room : s.room ≤ 4194304
  lens : s.names.length ≤ s.steps ∧ s.safe.length + s.chg.length ≤ s.steps ∧ F.length ≤ s.steps + 1
  left : -1 ≤ s.left ∧ s.left ≤ 9223372036854775807
  ne : (∀ p ∈ s.names, p.1.size ≠ 0) ∧ (∀ p ∈ s.safe, p.1.size ≠ 0)

def RfX (N : Nat) (w : World) (r : Nat) (s : Ds) (F : List Fv) (ρ : Rho) : Prop := ∃ fv nv sv cv, Rf N w r s F ρ fv nv sv cv ∧ F.length ≤ s.steps

section
variable {N : Nat} {w : World} {r : Nat} {s : Ds} {F : List Fv} {ρ : Rho} {fv nv sv cv : Value}

theorem FvOk.kept {room : Nat} {x : Fv} (h : FvOk w ρ room x) {G : Nat → Prop} {w' : World} (hk : Kept G w w') (hG : ∀ k, G k → ρ k = 0) : FvOk w' ρ room x :=
  ⟨h.src.kept hk (fun k i _ g => by have := hG k g; omega), h.len, h.nil, h.cap, h.safe, h.byte, h.room⟩

theorem Rf.kept (h : Rf N w r s F ρ fv nv sv cv) {G : Nat → Prop} {w' : World} (hk : Kept G w w') (hG : ∀ k, G k → ρ k = 0) : Rf N w' r s F ρ fv nv sv cv := by
  have hn : ∀ k, ρ k ≠ 0 → ¬ G k := fun k h1 h2 => h1 (hG k h2)
  exact ⟨h.blk.kept hk (hn r (by rw [h.rb]; decide)), h.fil.kept hk (fun k e => hn k (by rw [h.rf k e]; decide)), h.now.kept hk (fun k e => hn k (by rw [h.rn k e]; decide)), h.saf.kept hk (fun k e => hn k (by rw [h.rs k e]; decide)), h.chg.kept hk (fun k e => hn k (by rw [h.rc k e]; decide)), fun k x e => ⟨(h.fl k x e).1, (h.fl k x e).2.kept hk hG⟩, h.nmf, h.sff, h.chf, h.rb, h.rf, h.rn, h.rs, h.rc, fun k hk2 => ⟨(h.new k hk2).1, Nat.lt_of_lt_of_le (h.new k hk2).2 hk.size⟩, h.room, h.lens, h.left, h.ne⟩

theorem Rf.same (h : Rf N w r s F ρ fv nv sv cv) {w' : World} (hk : Same w w') : Rf N w' r s F ρ fv nv sv cv := h.kept hk (fun _ f => f.elim)
theorem RfX.same (h : RfX N w r s F ρ) {w' : World} (hk : Same w w') : RfX N w' r s F ρ := by
  obtain ⟨fv, nv, sv, cv, h, hF⟩ := h
  exact ⟨fv, nv, sv, cv, h.same hk, hF⟩
theorem RfX.kept (h : RfX N w r s F ρ) {G : Nat → Prop} {w' : World} (hk : Kept G w w') (hG : ∀ k, G k → ρ k = 0) : RfX N w' r s F ρ := by
  obtain ⟨fv, nv, sv, cv, h, hF⟩ := h
  exact ⟨fv, nv, sv, cv, h.kept hk hG, hF⟩
theorem RfX.new (h : RfX N w r s F ρ) (k : Nat) (hk : ρ k ≠ 0) : N ≤ k ∧ k < w.heap.size := by
  obtain ⟨fv, nv, sv, cv, h, _⟩ := h
  exact h.new k hk

set_option maxHeartbeats 400000 in
theorem rdown_any (w : World) (r : Nat) (x : Int) (h : w.cell? ⟨r, 6, none⟩ = some (.int .i64 x)) :
    Calls Try.prog 34 #[.pointer (some ⟨r, 0, none⟩)] w fun e w' => e = .returned (.bool (x == 0)) ∧ w' = w := by
  go_enter Try.func34, Try.ntmps34
  go_wp2_with fail
  go_ret
  exact ⟨rfl, rfl⟩

set_option maxHeartbeats 400000 in
theorem rnew_any (w : World) (n : Nat) :
    Calls Try.prog 11 #[.int .i64 (n : Nat)] w fun e w' => e = .returned (.pointer (some ⟨w.heap.size, 0, none⟩)) ∧ w' = w.alloc (.cells #[.int .i64 (n : Nat), .slice none 0 0, .slice none 0 0, .slice none 0 0, .slice none 0 0, .int .i64 0, .int .i64 (-1)] 67) := by
  go_enter Try.func11, Try.ntmps11
  go_wp2_with fail
  go_ret
  exact ⟨rfl, rfl⟩

theorem xrnew (w : World) (n : Nat) (h : n ≤ 4194304) :
    Calls Try.prog 11 #[.int .i64 (n : Nat)] w fun e w' => ∃ r ρ, e = .returned (.pointer (some ⟨r, 0, none⟩)) ∧ RfX w.heap.size w' r (newD n) [] ρ ∧ Same w w' := by
  refine (rnew_any w n).mono (fun e w' hh => ?_)
  obtain ⟨rfl, rfl⟩ := hh
  have hk : Same w (w.alloc (.cells #[.int .i64 (n : Nat), .slice none 0 0, .slice none 0 0, .slice none 0 0, .slice none 0 0, .int .i64 0, .int .i64 (-1)] 67)) := (Kept.refl _ w).alloc _
  refine ⟨w.heap.size, fun k => if k = w.heap.size then 1 else 0, rfl, ⟨.slice none 0 0, .slice none 0 0, .slice none 0 0, .slice none 0 0, ⟨Blk.new w _ _, RowC.nil, RowC.nil, RowC.nil, RowC.nil, fun k x e => by simp at e, by simp [newD], by simp [newD], by simp [newD], if_pos rfl, fun k e => (by cases e), fun k e => (by cases e), fun k e => (by cases e), fun k e => (by cases e), fun k hk2 => ?_, h, by simp [newD], by simp [newD], by simp [newD]⟩, Nat.zero_le _⟩, hk⟩
  by_cases e : k = w.heap.size
  · rw [e]; exact ⟨Nat.le_refl _, by simp⟩
  · exact absurd (if_neg e) hk2

theorem strV_one (l : List ByteArray) : ∀ u ∈ l.map strV, u.oneCell' = true := by
  intro u hu
  obtain ⟨b, _, rfl⟩ := List.mem_map.1 hu
  rfl

theorem Try.infoStr9 : (Try.prog.info? 9).map (fun i => (i.zero, i.size, i.bytes)) = some (some (.string ⟨#[]⟩), 1, 16) := by kernel_rfl

/-- An element of the reference's names. -/
theorem Rf.nowAt (h : Rf N w r s F ρ fv nv sv cv) (i : Nat) (hi : i < s.names.length) : ∃ g cap, nv = .slice (some ⟨g, 0, none⟩) s.names.length cap ∧ w.cell? ⟨g, i * 2, none⟩ = some (.string s.names[i].1) ∧ w.cell? ⟨g, i * 2 + 1, none⟩ = some (.int .i64 (s.names[i].2 : Nat)) := by
  obtain ⟨ao, cap, hv, hg, _⟩ := h.now.shape
  obtain ⟨g, rfl⟩ := hg (fun e => by rw [e] at hi; simp at hi)
  subst hv
  exact ⟨g, cap, rfl, h.now.cell nnE_ok i 0 hi (by decide), h.now.cell nnE_ok i 1 hi (by decide)⟩

set_option maxRecDepth 100000 in
set_option maxHeartbeats 1000000 in
theorem rnames_any (h : Rf N w r s F ρ fv nv sv cv) (hst : s.steps ≤ 1000000) :
    Calls Try.prog 32 #[.pointer (some ⟨r, 0, none⟩)] w fun e w' => ∃ v, e = .returned v ∧ RowE w.heap.size 9 strV w' v (namS s) ∧ Same w w' := by
  have HR : Hid (Rf N w r s F ρ fv nv sv cv) := h
  obtain ⟨a2, c2, hnv, _⟩ := h.now.shape
  obtain ⟨n, hn⟩ : ∃ n, n = s.names.length := ⟨_, rfl⟩
  rw [← hn] at hnv
  subst hnv
  have HN : Hid (n = s.names.length ∧ n ≤ 1000000) := hid ⟨hn, by have := h.lens; omega⟩
  clear h hst hn
  by_cases hl : s.left = 0
  · have HL : Hid (namS s = []) := hid (if_pos hl)
    have HDN : Hid (∀ w', Same w w' → Calls Try.prog 34 #[.pointer (some ⟨r, 0, none⟩)] w' fun e w2 => e = .returned (.bool true) ∧ w2 = w') := hid (fun w' hk => by
      have h9 := rdown_any w' r s.left ((HR.out.same hk).blk.cell 6)
      rw [show (s.left == 0) = true by simp [hl]] at h9
      exact h9)
    have c0 : w.cell? ⟨r, 2, none⟩ = some (.slice a2 n c2) := HR.out.blk.cell 2
    clear hl
    by_cases h0 : 0 < n
    · have b1 : decide ((0 : Int) < (n : Int)) = true := by simp; omega
      have b1' : decide (0 < n) = true := by simp; omega
      clear h0
      go_enter Try.func32, Try.ntmps32
      go_wp2_with fail
      refine wp_loop_rounds 1 ?_
      rw [rounds_succ]
      go_wp2_with fail
      refine (HDN.out w (Kept.refl _ _)).mono ?_
      rintro e w1 ⟨rfl, hw1⟩
      subst hw1
      go_wp2_with fail
      go_ret
      exact ⟨_, rfl, by rw [HL.out]; exact RowE.nil, Kept.refl _ _⟩
    · have b1 : decide ((0 : Int) < (n : Int)) = false := by simp; omega
      have b1' : decide (0 < n) = false := by simp; omega
      clear h0
      go_enter Try.func32, Try.ntmps32
      go_wp2_with fail
      refine wp_loop_rounds 1 ?_
      rw [rounds_succ]
      go_wp2_with fail
      go_ret
      exact ⟨_, rfl, by rw [HL.out]; exact RowE.nil, Kept.refl _ _⟩
  · have HL : Hid (namS s = s.names.map (·.1)) := hid (if_neg hl)
    have HDN : Hid (∀ w', Same w w' → Calls Try.prog 34 #[.pointer (some ⟨r, 0, none⟩)] w' fun e w2 => e = .returned (.bool false) ∧ w2 = w') := hid (fun w' hk => by
      have h9 := rdown_any w' r s.left ((HR.out.same hk).blk.cell 6)
      rw [show (s.left == 0) = false by simp [hl]] at h9
      exact h9)
    clear hl
    go_enter Try.func32, Try.ntmps32
    go_wp2_with fail
    go_loopg [3, 4] n (fun qq z3 z4 wr => ∃ i : Nat, z4 = .int .i64 (i : Nat) ∧ i ≤ n ∧ n - i ≤ qq ∧ Hid (RowE w.heap.size 9 strV wr z3 ((s.names.take i).map (·.1)) ∧ Same w wr))
    case atStart => exact ⟨0, rfl, by omega, by omega, hid ⟨RowE.nil, Kept.refl _ _⟩⟩
    case round =>
      obtain ⟨i, rfl, hi, hiq, HI⟩ := hrel
      obtain ⟨v0, hv0⟩ : ∃ v, v = u3 := ⟨_, rfl⟩
      rw [← hv0] at HI
      rw [← hv0]
      clear hv0
      obtain ⟨L0, hL0⟩ : ∃ L, L = (s.names.take i).map (·.1) := ⟨_, rfl⟩
      have HI : Hid (RowE w.heap.size 9 strV wr v0 L0 ∧ Same w wr) := hid (by rw [hL0]; exact HI.out)
      have HL0 : Hid (L0 = (s.names.take i).map (·.1)) := hL0
      clear hL0
      obtain ⟨a0, c0, hv0, _⟩ := HI.out.1.shape
      obtain ⟨l0, hl0⟩ : ∃ n, n = L0.length := ⟨_, rfl⟩
      rw [← hl0] at hv0
      subst hv0
      clear hl0
      have d2 : wr.cell? ⟨r, 2, none⟩ = some (.slice a2 n c2) := (HR.out.same HI.out.2).blk.cell 2
      by_cases hlt : i < n
      · have b1 : decide (i < n) = true := by simp; omega
        obtain ⟨g, cap, hnv, k0, k1⟩ := (HR.out.same HI.out.2).nowAt i (by have := HN.out; omega)
        simp only [Value.slice.injEq] at hnv
        have hnv1 := hnv.1
        clear hnv
        subst hnv1
        obtain ⟨t, ht⟩ : ∃ t, t = (s.names[i]'(by have := HN.out; omega)).1 := ⟨_, rfl⟩
        rw [← ht] at k0
        have i1 : (0 : Int) ≤ (i : Int) := by omega
        have i2 : (i : Int) < (n : Int) := by omega
        have hiw : IntKind.i64.wrap ((i : Int) + 1) = ((i + 1 : Nat) : Int) := by rw [IntKind.wrap_i64]; have := HN.out; omega
        have HD1 := HDN.out wr HI.out.2
        have HT : Hid ((s.names.take (i + 1)).map (·.1) = L0 ++ [t]) := hid (by rw [HL0.out, List.take_add_one, List.getElem?_eq_getElem (by have := HN.out; omega), List.map_append, ht]; rfl)
        have HX : Hid (i < n) := hlt
        have HLL : Hid (L0.length + 1 ≤ 1000000000) := hid (by rw [HL0.out, List.length_map, List.length_take]; have := HN.out; omega)
        have HSZ : Hid (w.heap.size ≤ wr.heap.size) := hid HI.out.2.size
        clear ht k1 hlt
        go_wp2_with fail
        refine HD1.mono ?_
        rintro e w1 ⟨rfl, hw1⟩
        subst hw1
        clear HD1
        go_wp2_with (at_builtin; refine wpList_append_e _ strV strV_one w.heap.size 50 9 (.string ⟨#[]⟩) 16 Try.underlying50 Try.infoStr9 rfl (by decide) rfl (.tmp 19) (.tmp 28) rfl (.slice a0 l0 c0) L0 rfl (HI.out.1.kept (show Same _ _ from (Kept.refl _ _).alloc _) (fun _ _ f => f)) ⟨w1.heap.size, 0, none⟩ 1 1 [t] rfl rfl (cellsAt_new _ _ _) HLL.out (by have := HSZ.out; simp; omega) ?_)
        intro v5 w5 hr5 hg5
        have HF : Hid (RowE w.heap.size 9 strV w5 v5 ((s.names.take (i + 1)).map (·.1)) ∧ Same w w5) := hid ⟨by rw [HT.out]; exact hr5, Kept.grown (Same.trans HI.out.2 ((Kept.refl _ w1).alloc _)) hg5 (fun k e => .inr (RowE.ge HI.out.1 e))⟩
        obtain ⟨a5, c5, hv5, _⟩ := hr5.shape
        obtain ⟨l5, hl5⟩ : ∃ n, n = (L0 ++ [t]).length := ⟨_, rfl⟩
        rw [← hl5] at hv5
        subst hv5
        clear hr5 hg5 hl5
        go_wp2_with fail
        go_roundg (gk - 1)
        case measure => have := HX.out; omega
        case rel => exact ⟨i + 1, by go_num, by have := HX.out; omega, by have := HX.out; omega, HF⟩
      · have b1 : decide (i < n) = false := by simp; omega
        have hE : i = n := by omega
        subst hE
        go_wp2_with fail
        go_ret
        refine ⟨_, rfl, ?_, HI.out.2⟩
        rw [HL.out]
        have h9 := HI.out.1
        rw [HL0.out, List.take_of_length_le (by have := HN.out; omega)] at h9
        exact h9

end

end Go.Proofs.Ytjcobogajkfnmaa

/-
  Layer 9: the reference's Used.
-/
namespace Go.Proofs.Ytjcobogajkfnmaa
open Go.RowKit Go.Maps

section
variable {N : Nat} {w : World} {r : Nat} {s : Ds} {F : List Fv} {ρ : Rho} {fv nv sv cv : Value}

/-- A file of the reference, by number. -/
theorem Rf.fileAt (h : Rf N w r s F ρ fv nv sv cv) (k : Nat) (hk : k < F.length) : ∃ g cap, fv = .slice (some ⟨g, 0, none⟩) F.length cap ∧ w.cell? ⟨g, k * 2, none⟩ = some (.slice F[k].a F[k].n F[k].c) ∧ w.cell? ⟨g, k * 2 + 1, none⟩ = some (.int .i64 (F[k].safe : Nat)) ∧ s.fl k = ⟨F[k].bs, F[k].safe⟩ ∧ FvOk w ρ s.room F[k] := by
  obtain ⟨ao, cap, hv, hg, _⟩ := h.fil.shape
  obtain ⟨g, rfl⟩ := hg (fun e => by rw [e] at hk; simp at hk)
  subst hv
  have h9 := h.fl k F[k] (List.getElem?_eq_getElem hk)
  exact ⟨g, cap, rfl, h.fil.cell fvE_ok k 0 hk (by decide), h.fil.cell fvE_ok k 1 hk (by decide), h9.1, h9.2⟩

/-- The bytes of the first some names. -/
def usedT (s : Ds) (i : Nat) : Nat := ((s.names.take i).map (fun p => lenF s p.2)).sum

theorem usedT_next (s : Ds) (i : Nat) (h : i < s.names.length) : usedT s (i + 1) = usedT s i + lenF s s.names[i].2 := by
  unfold usedT
  rw [List.take_add_one, List.getElem?_eq_getElem h, List.map_append, List.sum_append]
  simp

theorem usedT_all (s : Ds) (i : Nat) (h : s.names.length ≤ i) : usedT s i = usedN s := by
  unfold usedT usedN
  rw [List.take_of_length_le h]

theorem Rf.usedT_le (h : Rf N w r s F ρ fv nv sv cv) (i : Nat) : usedT s i ≤ i * 4194304 := by
  induction i with
  | zero => simp [usedT]
  | succ i ih =>
    by_cases hi : i < s.names.length
    · rw [usedT_next s i hi]
      obtain ⟨_, _, _, _, _, h4, h5⟩ := h.fileAt _ (h.nmf s.names[i] (List.getElem_mem hi))
      have h6 := h5.room
      have h7 := h5.len
      have h8 := h.room
      have : lenF s s.names[i].2 ≤ 4194304 := by unfold lenF; rw [h4]; dsimp only; omega
      omega
    · have e : usedT s (i + 1) = usedT s i := by rw [usedT_all s i (by omega), usedT_all s (i + 1) (by omega)]
      omega

set_option maxRecDepth 100000 in
set_option maxHeartbeats 1000000 in
theorem rused_any (h : Rf N w r s F ρ fv nv sv cv) (hst : s.steps ≤ 1000000) :
    Calls Try.prog 33 #[.pointer (some ⟨r, 0, none⟩)] w fun e w' => e = .returned (.int .i64 (useS s : Nat)) ∧ Same w w' := by
  have HR : Hid (Rf N w r s F ρ fv nv sv cv) := h
  obtain ⟨a2, c2, hnv, _⟩ := h.now.shape
  obtain ⟨a1, c1, hfv, _⟩ := h.fil.shape
  obtain ⟨n, hn⟩ : ∃ n, n = s.names.length := ⟨_, rfl⟩
  obtain ⟨m, hm⟩ : ∃ n, n = F.length := ⟨_, rfl⟩
  rw [← hn] at hnv
  rw [← hm] at hfv
  subst hnv hfv
  have HN : Hid (n = s.names.length ∧ n ≤ 1000000 ∧ m = F.length ∧ m ≤ 2000000) := hid ⟨hn, by have := h.lens; omega, hm, by have := h.lens; omega⟩
  clear h hst hn hm
  by_cases hl : s.left = 0
  · have HL : Hid (useS s = 0) := hid (if_pos hl)
    have HDN : Hid (Calls Try.prog 34 #[.pointer (some ⟨r, 0, none⟩)] w fun e w2 => e = .returned (.bool true) ∧ w2 = w) := hid (by
      have h9 := rdown_any w r s.left (HR.out.blk.cell 6)
      rw [show (s.left == 0) = true by simp [hl]] at h9
      exact h9)
    have c0 : w.cell? ⟨r, 2, none⟩ = some (.slice a2 n c2) := HR.out.blk.cell 2
    clear hl
    by_cases h0 : 0 < n
    · have b1 : decide ((0 : Int) < (n : Int)) = true := by simp; omega
      have b1' : decide (0 < n) = true := by simp; omega
      clear h0
      go_enter Try.func33, Try.ntmps33
      go_wp2_with fail
      refine wp_loop_rounds 1 ?_
      rw [rounds_succ]
      go_wp2_with fail
      refine HDN.out.mono ?_
      rintro e w1 ⟨rfl, hw1⟩
      subst hw1
      go_wp2_with fail
      go_ret
      exact ⟨by rw [HL.out]; rfl, Kept.refl _ _⟩
    · have b1 : decide ((0 : Int) < (n : Int)) = false := by simp; omega
      have b1' : decide (0 < n) = false := by simp; omega
      clear h0
      go_enter Try.func33, Try.ntmps33
      go_wp2_with fail
      refine wp_loop_rounds 1 ?_
      rw [rounds_succ]
      go_wp2_with fail
      go_ret
      exact ⟨by rw [HL.out]; rfl, Kept.refl _ _⟩
  · have HL : Hid (useS s = usedN s) := hid (if_neg hl)
    have HDN : Hid (∀ w', Same w w' → Calls Try.prog 34 #[.pointer (some ⟨r, 0, none⟩)] w' fun e w2 => e = .returned (.bool false) ∧ w2 = w') := hid (fun w' hk => by
      have h9 := rdown_any w' r s.left ((HR.out.same hk).blk.cell 6)
      rw [show (s.left == 0) = false by simp [hl]] at h9
      exact h9)
    clear hl
    go_enter Try.func33, Try.ntmps33
    go_wp2_with fail
    go_loopg [3, 4] n (fun qq z3 z4 wr => ∃ (i U : Nat), z4 = .int .i64 (i : Nat) ∧ z3 = .int .i64 (U : Nat) ∧ i ≤ n ∧ n - i ≤ qq ∧ Hid (U = usedT s i ∧ Same w wr))
    case atStart => exact ⟨0, 0, rfl, rfl, by omega, by omega, hid ⟨by simp [usedT], Kept.refl _ _⟩⟩
    case round =>
      obtain ⟨i, U, rfl, rfl, hi, hiq, HI⟩ := hrel
      have d2 : wr.cell? ⟨r, 2, none⟩ = some (.slice a2 n c2) := (HR.out.same HI.out.2).blk.cell 2
      have d1 : wr.cell? ⟨r, 1, none⟩ = some (.slice a1 m c1) := (HR.out.same HI.out.2).blk.cell 1
      by_cases hlt : i < n
      · have b1 : decide (i < n) = true := by simp; omega
        have hR := HR.out.same HI.out.2
        have hin : i < s.names.length := by have := HN.out; omega
        obtain ⟨g, cap, hnv, k0, k1⟩ := hR.nowAt i hin
        simp only [Value.slice.injEq] at hnv
        have hnv1 := hnv.1
        clear hnv
        subst hnv1
        obtain ⟨f, hf⟩ : ∃ f, f = s.names[i].2 := ⟨_, rfl⟩
        rw [← hf] at k1
        have hfl : f < F.length := by rw [hf]; exact hR.nmf _ (List.getElem_mem hin)
        obtain ⟨g1, cap1, hfv, k2, k3, k4, k5⟩ := hR.fileAt f hfl
        simp only [Value.slice.injEq] at hfv
        have hfv1 := hfv.1
        clear hfv
        subst hfv1
        obtain ⟨x, hx⟩ : ∃ x, x = F[f] := ⟨_, rfl⟩
        rw [← hx] at k2 k4 k5
        obtain ⟨xa, xn, xc, xbs, xsf⟩ := x
        dsimp only at k2 k4
        have hxn : lenF s f = xn := by unfold lenF; rw [k4]; exact k5.len
        have hle := hR.usedT_le i
        have hU := HI.out.1
        have hxr : xn ≤ s.room := k5.room
        have hrm := hR.room
        obtain ⟨U2, hU2⟩ : ∃ u, u = U + xn := ⟨_, rfl⟩
        have q1 : (U : Int) + (xn : Int) = (U2 : Int) := by omega
        have q1w : IntKind.i64.wrap (U2 : Int) = (U2 : Int) := by rw [IntKind.wrap_i64]; have := HN.out; omega
        have HU : Hid (U2 = usedT s (i + 1)) := hid (by rw [usedT_next s i hin, ← hf, hxn, hU2, hU])
        have i1 : (0 : Int) ≤ (i : Int) := by omega
        have i2 : (i : Int) < (n : Int) := by omega
        have i3 : (0 : Int) ≤ (f : Int) := by omega
        have i4 : (f : Int) < (m : Int) := by have := HN.out; omega
        have hiw : IntKind.i64.wrap ((i : Int) + 1) = ((i + 1 : Nat) : Int) := by rw [IntKind.wrap_i64]; have := HN.out; omega
        have HD1 := HDN.out wr HI.out.2
        have HX : Hid (i < n) := hlt
        clear hR k0 k3 hf hx hxn hle hU hxr hrm hU2 k4 k5 hlt
        go_wp2_with fail
        refine HD1.mono ?_
        rintro e w1 ⟨rfl, hw1⟩
        subst hw1
        clear HD1
        go_wp2_with fail
        go_quiet (fail)
        go_wp2_with fail
        go_roundg (gk - 1)
        case measure => have := HX.out; omega
        case rel => exact ⟨i + 1, U2, by go_num, by go_num, by have := HX.out; omega, by have := HX.out; omega, hid ⟨HU.out, HI.out.2.drewN _⟩⟩
      · have b1 : decide (i < n) = false := by simp; omega
        have hE : i = n := by omega
        subst hE
        go_wp2_with fail
        go_ret
        exact ⟨by rw [HL.out, ← usedT_all s i (by have := HN.out; omega), ← HI.out.1]; rfl, HI.out.2⟩

end

end Go.Proofs.Ytjcobogajkfnmaa

/-
  Layer 9: the reference's find, file, Read.
-/
namespace Go.Proofs.Ytjcobogajkfnmaa
open Go.RowKit Go.Maps

/-- Where a name stands. -/
def fixN (t : ByteArray) : Nms → Nat → Option Nat
  | [], _ => none
  | p :: L, i => if p.1 = t then some i else fixN t L (i + 1)

theorem fixN_none {t : ByteArray} : ∀ {L : Nms} {i : Nat}, fixN t L i = none → getN t L = none
  | [], _, _ => rfl
  | p :: L, i, h => by
    unfold fixN at h
    split at h
    · cases h
    · rename_i hne
      unfold getN
      rw [List.find?_cons_of_neg (by simp; exact hne)]
      exact fixN_none h

theorem fixN_some {t : ByteArray} : ∀ {L : Nms} {i k : Nat}, fixN t L i = some k → i ≤ k ∧ ∃ h : k - i < L.length, getN t L = some L[k - i].2
  | [], _, _, h => by cases h
  | p :: L, i, k, h => by
    unfold fixN at h
    split at h
    · rename_i he
      simp only [Option.some.injEq] at h
      subst h
      refine ⟨Nat.le_refl _, by simp, ?_⟩
      unfold getN
      rw [List.find?_cons_of_pos (by simp; exact he)]
      simp
    · rename_i hne
      obtain ⟨h1, h2, h3⟩ := fixN_some h
      refine ⟨by omega, by simp; omega, ?_⟩
      unfold getN
      rw [List.find?_cons_of_neg (by simp; exact hne)]
      have e : k - i = (k - (i + 1)) + 1 := by omega
      simp only [e, List.getElem_cons_succ]
      exact h3

def fixI (x : Option Nat) : Int := match x with | some k => (k : Int) | none => -1

theorem str_eq (s t : ByteArray) : (s.toList == t.toList) = decide (s = t) := by
  rw [Lib.toList_data, Lib.toList_data]
  by_cases h : s = t
  · subst h; simp
  · have : ¬ s.data.toList = t.data.toList := fun e => h (by cases s; cases t; rw [Array.toList_inj] at e; exact congrArg ByteArray.mk e)
    rw [decide_eq_false h]
    simpa using this

set_option maxRecDepth 100000 in
set_option maxHeartbeats 1000000 in
theorem rfind_any (w : World) (N : Nat) (v : Value) (L : Nms) (h : RowC N 99 2 nnE w v L) (hl : L.length ≤ 1000000) (t : ByteArray) :
    Calls Try.prog 66 #[v, .string t] w fun e w' => e = .returned (.int .i64 (fixI (fixN t L 0))) ∧ w' = w := by
  have HR : Hid (RowC N 99 2 nnE w v L) := h
  obtain ⟨ao, cap, hv, hg, _⟩ := h.shape
  obtain ⟨n, hn⟩ : ∃ n, n = L.length := ⟨_, rfl⟩
  rw [← hn] at hv
  subst hv
  have HN : Hid (n = L.length ∧ n ≤ 1000000 ∧ (L ≠ [] → ∃ g, ao = some ⟨g, 0, none⟩)) := hid ⟨hn, by omega, hg⟩
  obtain ⟨T, hT⟩ : ∃ T, T = fixI (fixN t L 0) := ⟨_, rfl⟩
  rw [← hT]
  have HT : Hid (T = fixI (fixN t L 0)) := hT
  clear h hl hg hn hT
  go_enter Try.func66, Try.ntmps66
  go_wp2_with fail
  go_loopg [5] n (fun qq z wr => ∃ i : Nat, z = .int .i64 (i : Nat) ∧ i ≤ n ∧ n - i ≤ qq ∧ Hid (fixN t (L.drop i) i = fixN t L 0) ∧ wr = w)
  case atStart => exact ⟨0, rfl, by omega, by omega, hid rfl, rfl⟩
  case round =>
    obtain ⟨i, rfl, hi, hiq, HI, hwr⟩ := hrel
    subst hwr
    by_cases hlt : i < n
    · have b1 : decide (i < n) = true := by simp; omega
      have hil : i < L.length := by have := HN.out; omega
      obtain ⟨g, hg⟩ := HN.out.2.2 (fun e => by rw [e] at hil; simp at hil)
      subst hg
      obtain ⟨u, hu⟩ : ∃ u, u = L[i].1 := ⟨_, rfl⟩
      have k0 : wr.cell? ⟨g, i * 2, none⟩ = some (.string u) := by rw [hu]; exact HR.out.cell nnE_ok i 0 hil (by decide)
      have i1 : (0 : Int) ≤ (i : Int) := by omega
      have i2 : (i : Int) < (n : Int) := by omega
      have hiw : IntKind.i64.wrap ((i : Int) + 1) = ((i + 1 : Nat) : Int) := by rw [IntKind.wrap_i64]; have := HN.out; omega
      have hse := str_eq u t
      have HX : Hid (i < n) := hlt
      have hdr : fixN t (L.drop i) i = if u = t then some i else fixN t (L.drop (i + 1)) (i + 1) := by rw [List.drop_eq_getElem_cons hil, fixN, ← hu]
      by_cases he : u = t
      · rw [decide_eq_true he] at hse
        rw [if_pos he] at hdr
        have HE : Hid (T = (i : Int)) := hid (by rw [HT.out, ← HI.out, hdr]; rfl)
        clear he hdr hu hlt
        go_wp2_with fail
        go_ret
        exact ⟨by rw [HE.out]; rfl, rfl⟩
      · rw [decide_eq_false he] at hse
        rw [if_neg he] at hdr
        have HE : Hid (fixN t (L.drop (i + 1)) (i + 1) = fixN t L 0) := hid (by rw [← hdr]; exact HI.out)
        clear he hdr hu hlt
        go_wp2_with fail
        go_roundg (gk - 1)
        case measure => have := HX.out; omega
        case rel => exact ⟨i + 1, by go_num, by have := HX.out; omega, by have := HX.out; omega, HE, rfl⟩
    · have b1 : decide (i < n) = false := by simp; omega
      have HE : Hid (T = -1) := hid (by
        have h9 := HI.out
        rw [List.drop_eq_nil_of_le (by have := HN.out; omega)] at h9
        rw [HT.out, ← h9]
        rfl)
      go_wp2_with fail
      go_ret
      exact ⟨by rw [HE.out]; rfl, rfl⟩

section
variable {N : Nat} {w : World} {r : Nat} {s : Ds} {F : List Fv} {ρ : Rho} {fv nv sv cv : Value}

set_option maxRecDepth 100000 in
set_option maxHeartbeats 400000 in
theorem rfile_any (h : Rf N w r s F ρ fv nv sv cv) (hst : s.steps ≤ 1000000) (t : ByteArray) :
    Calls Try.prog 64 #[.pointer (some ⟨r, 0, none⟩), .string t] w fun e w' => e = .returned (.int .i64 (fixI (getN t s.names))) ∧ w' = w := by
  have HF := rfind_any w N nv s.names h.now (by have := h.lens; omega) t
  cases hf : fixN t s.names 0 with
  | none =>
    rw [hf] at HF
    have hg := fixN_none hf
    rw [hg]
    have c2 : w.cell? ⟨r, 2, none⟩ = some nv := h.blk.cell 2
    obtain ⟨a2, c2', hnv, _⟩ := h.now.shape
    obtain ⟨n, hn⟩ : ∃ n, n = s.names.length := ⟨_, rfl⟩
    rw [← hn] at hnv
    subst hnv
    unfold fixI at HF
    clear h hf hg hn
    go_enter Try.func64, Try.ntmps64
    go_wp2_with fail
    refine HF.mono ?_
    rintro e w1 ⟨rfl, hw1⟩
    subst hw1
    go_wp2_with fail
    go_ret
    exact ⟨rfl, rfl⟩
  | some k =>
    rw [hf] at HF
    obtain ⟨_, hk, hg⟩ := fixN_some hf
    simp only [Nat.sub_zero] at hk hg
    obtain ⟨g, cap, hnv, k0, k1⟩ := h.nowAt k hk
    have c2 : w.cell? ⟨r, 2, none⟩ = some nv := h.blk.cell 2
    obtain ⟨n, hn⟩ : ∃ n, n = s.names.length := ⟨_, rfl⟩
    rw [← hn] at hnv hk
    subst hnv
    obtain ⟨f, hff⟩ : ∃ f, f = (s.names[k]'(by omega)).2 := ⟨_, rfl⟩
    rw [← hff] at k1 hg
    rw [hg]
    unfold fixI at HF
    dsimp only at HF
    have b1 : decide ((k : Int) < 0) = false := by simp
    have b1' : decide (k < 0) = false := by simp
    have i1 : (0 : Int) ≤ (k : Int) := by omega
    have i2 : (k : Int) < (n : Int) := by omega
    clear h hf hg hff k0 hn
    go_enter Try.func64, Try.ntmps64
    go_wp2_with fail
    refine HF.mono ?_
    rintro e w1 ⟨rfl, hw1⟩
    subst hw1
    go_wp2_with fail
    go_ret
    exact ⟨rfl, rfl⟩

/-- What Read tells. -/
def RrdA (w : World) (ρ : Rho) (r : Except Nat (List Nat)) (e : Ending) (w' : World) : Prop :=
  w' = w ∧ (∀ k, r = .error k → e = .returned (.tuple #[.slice none 0 0, .int .i64 (k : Nat)])) ∧
  ∀ bs, r = .ok bs → ∃ a n c, e = .returned (.tuple #[.slice a n c, .int .i64 0]) ∧ Src w (fun j => ρ j = 9) (.slice a n c) bs

set_option maxRecDepth 100000 in
set_option maxHeartbeats 400000 in
theorem rread_any (h : Rf N w r s F ρ fv nv sv cv) (hst : s.steps ≤ 1000000) (t : ByteArray) :
    Calls Try.prog 35 #[.pointer (some ⟨r, 0, none⟩), .string t] w fun e w' => RrdA w ρ (reaS s t) e w' := by
  have HDN := rdown_any w r s.left (h.blk.cell 6)
  by_cases hl : s.left = 0
  · rw [show (s.left == 0) = true by simp [hl]] at HDN
    have HR : Hid (reaS s t = .error 94) := hid (if_pos hl)
    clear h hl
    go_enter Try.func35, Try.ntmps35
    go_wp2_with fail
    refine HDN.mono ?_
    rintro e w1 ⟨rfl, hw1⟩
    subst hw1
    go_wp2_with fail
    go_ret2
    exact ⟨rfl, fun k e => (by rw [HR.out] at e; cases e; rfl), fun bs e => (by rw [HR.out] at e; cases e)⟩
  · rw [show (s.left == 0) = false by simp [hl]] at HDN
    have HF := rfile_any h hst t
    cases hg : getN t s.names with
    | none =>
      rw [hg] at HF
      have HR : Hid (reaS s t = .error 92) := hid (by unfold reaS; rw [if_neg hl, hg])
      unfold fixI at HF
      clear h hl hg
      go_enter Try.func35, Try.ntmps35
      go_wp2_with fail
      refine HDN.mono ?_
      rintro e w1 ⟨rfl, hw1⟩
      subst hw1
      clear HDN
      go_wp2_with fail
      refine HF.mono ?_
      rintro e w2 ⟨rfl, hw2⟩
      subst hw2
      clear HF
      go_wp2_with fail
      go_ret2
      exact ⟨rfl, fun k e => (by rw [HR.out] at e; cases e; rfl), fun bs e => (by rw [HR.out] at e; cases e)⟩
    | some f =>
      rw [hg] at HF
      have HR : Hid (reaS s t = .ok (s.fl f).bs) := hid (by unfold reaS; rw [if_neg hl, hg])
      unfold fixI at HF
      dsimp only at HF
      have hfl : f < F.length := h.nmf _ (getN_mem hg)
      obtain ⟨g1, cap1, hfv, k2, k3, k4, k5⟩ := h.fileAt f hfl
      have c1 : w.cell? ⟨r, 1, none⟩ = some fv := h.blk.cell 1
      obtain ⟨m, hm⟩ : ∃ n, n = F.length := ⟨_, rfl⟩
      rw [← hm] at hfv
      subst hfv
      obtain ⟨x, hx⟩ : ∃ x, x = F[f] := ⟨_, rfl⟩
      rw [← hx] at k2 k4 k5
      have HS : Hid (Src w (fun j => ρ j = 9) (.slice x.a x.n x.c) (s.fl f).bs) := hid (by rw [k4]; exact k5.src)
      obtain ⟨xa, xn, xc, xbs, xsf⟩ := x
      dsimp only at k2 HS
      have b1 : decide ((f : Int) < 0) = false := by simp
      have b1' : decide (f < 0) = false := by simp
      have i1 : (0 : Int) ≤ (f : Int) := by omega
      have i2 : (f : Int) < (m : Int) := by omega
      clear h hl hg k3 k4 k5 hx hm hfl
      go_enter Try.func35, Try.ntmps35
      go_wp2_with fail
      refine HDN.mono ?_
      rintro e w1 ⟨rfl, hw1⟩
      subst hw1
      clear HDN
      go_wp2_with fail
      refine HF.mono ?_
      rintro e w2 ⟨rfl, hw2⟩
      subst hw2
      clear HF
      go_wp2_with fail
      go_ret2
      exact ⟨rfl, fun k e => (by rw [HR.out] at e; cases e), fun bs e => (by rw [HR.out] at e; cases e; exact ⟨_, _, _, rfl, HS.out⟩)⟩

end

end Go.Proofs.Ytjcobogajkfnmaa

/-
  Layer 9: the reference's names without one.
-/
namespace Go.Proofs.Ytjcobogajkfnmaa
open Go.RowKit Go.Maps

theorem Try.infoNamed9 : (Try.prog.info? 99).map (fun i => (i.zero, i.size, i.bytes)) = some (some (.agg #[.string ⟨#[]⟩, .int .i64 0]), 2, 24) := by kernel_rfl

theorem cellsAt_nn (w : World) (p : ByteArray × Nat) : CellsAt (w.alloc (.cells #[.string p.1, .int .i64 (p.2 : Nat)] 99)) ⟨w.heap.size, 0, none⟩ ([p].flatMap nnE) := by
  intro j u hj
  match j, hj with
  | 0, hj => simp [nnE] at hj; subst hj; simp [addAt]
  | 1, hj => simp [nnE] at hj; subst hj; simp [addAt]
  | j + 2, hj => simp [nnE] at hj

theorem str_ne (s t : ByteArray) : (s.toList != t.toList) = !decide (s = t) := by
  show (!(s.toList == t.toList)) = _
  rw [str_eq]

theorem delN_next (t : ByteArray) (L : Nms) (i : Nat) (h : i < L.length) : delN t (L.take (i + 1)) = if L[i].1 = t then delN t (L.take i) else delN t (L.take i) ++ [L[i]] := by
  unfold delN
  rw [List.take_add_one, List.getElem?_eq_getElem h, Option.toList_some, List.filter_append]
  by_cases e : L[i].1 = t
  · rw [if_pos e]; simp [e]
  · rw [if_neg e]; simp [e]

set_option maxRecDepth 100000 in
set_option maxHeartbeats 1000000 in
theorem rwithout_any (w : World) (N : Nat) (v : Value) (L : Nms) (h : RowC N 99 2 nnE w v L) (hl : L.length ≤ 1000000) (t : ByteArray) :
    Calls Try.prog 41 #[v, .string t] w fun e w' => ∃ v', e = .returned v' ∧ RowC w.heap.size 99 2 nnE w' v' (delN t L) ∧ Same w w' := by
  have HR : Hid (RowC N 99 2 nnE w v L) := h
  obtain ⟨ao, cap, hv, hg, _⟩ := h.shape
  obtain ⟨n, hn⟩ : ∃ n, n = L.length := ⟨_, rfl⟩
  rw [← hn] at hv
  subst hv
  have HN : Hid (n = L.length ∧ n ≤ 1000000 ∧ (L ≠ [] → ∃ g, ao = some ⟨g, 0, none⟩)) := hid ⟨hn, by omega, hg⟩
  clear h hl hg hn
  go_enter Try.func41, Try.ntmps41
  go_wp2_with fail
  go_loopg [5, 6] n (fun qq z5 z6 wr => ∃ i : Nat, z6 = .int .i64 (i : Nat) ∧ i ≤ n ∧ n - i ≤ qq ∧ Hid (RowC w.heap.size 99 2 nnE wr z5 (delN t (L.take i)) ∧ Same w wr))
  case atStart => exact ⟨0, rfl, by omega, by omega, hid ⟨RowC.nil, Kept.refl _ _⟩⟩
  case round =>
    obtain ⟨i, rfl, hi, hiq, HI⟩ := hrel
    obtain ⟨v0, hv0⟩ : ∃ v, v = u5 := ⟨_, rfl⟩
    rw [← hv0] at HI
    rw [← hv0]
    clear hv0
    obtain ⟨L0, hL0⟩ : ∃ M, M = delN t (L.take i) := ⟨_, rfl⟩
    have HI : Hid (RowC w.heap.size 99 2 nnE wr v0 L0 ∧ Same w wr) := hid (by rw [hL0]; exact HI.out)
    have HL0 : Hid (L0 = delN t (L.take i) ∧ L0.length ≤ i) := hid ⟨hL0, by rw [hL0]; exact Nat.le_trans (List.length_filter_le _ _) (by rw [List.length_take]; omega)⟩
    clear hL0
    obtain ⟨a0, c0, hv0, _⟩ := HI.out.1.shape
    obtain ⟨l0, hl0⟩ : ∃ n, n = L0.length := ⟨_, rfl⟩
    rw [← hl0] at hv0
    subst hv0
    clear hl0
    by_cases hlt : i < n
    · have b1 : decide (i < n) = true := by simp; omega
      have hil : i < L.length := by have := HN.out; omega
      obtain ⟨g, hg⟩ := HN.out.2.2 (fun e => by rw [e] at hil; simp at hil)
      subst hg
      have hnx := delN_next t L i hil
      have hk0 := (HR.out.kept HI.out.2 (fun _ _ f => f)).cell nnE_ok i 0 hil (by decide)
      have hk1 := (HR.out.kept HI.out.2 (fun _ _ f => f)).cell nnE_ok i 1 hil (by decide)
      obtain ⟨p, hp⟩ : ∃ p, p = L[i] := ⟨_, rfl⟩
      rw [← hp] at hnx hk0 hk1
      have HNX : Hid (delN t (L.take (i + 1)) = if p.1 = t then delN t (L.take i) else delN t (L.take i) ++ [p]) := hnx
      obtain ⟨u, f⟩ := p
      have k0 : wr.cell? ⟨g, i * 2, none⟩ = some (.string u) := hk0
      have k1 : wr.cell? ⟨g, i * 2 + 1, none⟩ = some (.int .i64 (f : Nat)) := hk1
      have i1 : (0 : Int) ≤ (i : Int) := by omega
      have i2 : (i : Int) < (n : Int) := by omega
      have hiw : IntKind.i64.wrap ((i : Int) + 1) = ((i + 1 : Nat) : Int) := by rw [IntKind.wrap_i64]; have := HN.out; omega
      have hse := str_eq u t
      have hsn := str_ne u t
      have HX : Hid (i < n) := hlt
      have HLL : Hid (L0.length + [(u, f)].length ≤ 1000000000) := hid (by have := HL0.out.2; have := HN.out; simp; omega)
      have HSZ : Hid (w.heap.size ≤ wr.heap.size) := hid HI.out.2.size
      clear hnx hp hk0 hk1 hlt hil
      by_cases he : u = t
      · rw [decide_eq_true he] at hse hsn
        have HF : Hid (RowC w.heap.size 99 2 nnE wr (.slice a0 l0 c0) (delN t (L.take (i + 1))) ∧ Same w wr) := hid (by rw [HNX.out, if_pos he, ← HL0.out.1]; exact HI.out)
        clear he
        go_wp2_with fail
        go_roundg (gk - 1)
        case measure => have := HX.out; omega
        case rel => exact ⟨i + 1, by go_num, by have := HX.out; omega, by have := HX.out; omega, HF⟩
      · rw [decide_eq_false he] at hse hsn
        have HT : Hid (delN t (L.take (i + 1)) = L0 ++ [(u, f)]) := hid (by rw [HNX.out, if_neg he, ← HL0.out.1])
        clear he
        go_wp2_with (at_builtin; refine wpList_append_c _ nnE 2 nnE_ok (by decide) w.heap.size 64 99 (.agg #[.string ⟨#[]⟩, .int .i64 0]) 24 Try.underlying64 Try.infoNamed9 rfl (by decide) rfl (.tmp 20) (.tmp 25) rfl (.slice a0 l0 c0) L0 rfl (HI.out.1.kept (show Same _ _ from (Kept.refl _ _).alloc _) (fun _ _ f => f)) ⟨wr.heap.size, 0, none⟩ 1 1 [(u, f)] rfl rfl (cellsAt_nn wr (u, f)) HLL.out (by have := HSZ.out; simp; omega) ?_)
        intro v5 w5 hr5 hg5
        have HF : Hid (RowC w.heap.size 99 2 nnE w5 v5 (delN t (L.take (i + 1))) ∧ Same w w5) := hid ⟨by rw [HT.out]; exact hr5, Kept.grown (Same.trans HI.out.2 ((Kept.refl _ wr).alloc _)) hg5 (fun k e => .inr (RowC.ge HI.out.1 e))⟩
        obtain ⟨a5, c5, hv5, _⟩ := hr5.shape
        obtain ⟨l5, hl5⟩ : ∃ n, n = (L0 ++ [(u, f)]).length := ⟨_, rfl⟩
        rw [← hl5] at hv5
        subst hv5
        clear hr5 hg5 hl5
        go_wp2_with fail
        go_roundg (gk - 1)
        case measure => have := HX.out; omega
        case rel => exact ⟨i + 1, by go_num, by have := HX.out; omega, by have := HX.out; omega, HF⟩
    · have b1 : decide (i < n) = false := by simp; omega
      have hE : i = n := by omega
      subst hE
      go_wp2_with fail
      go_ret
      refine ⟨_, rfl, ?_, HI.out.2⟩
      have h9 := HI.out.1
      rw [HL0.out.1, List.take_of_length_le (by have := HN.out; omega)] at h9
      exact h9

end Go.Proofs.Ytjcobogajkfnmaa

/-
  Layer 9's law: same.
-/
namespace Go.Proofs.Ytjcobogajkfnmaa
open Go.RowKit Go.Maps

set_option maxRecDepth 100000 in
set_option maxHeartbeats 2000000 in
theorem dsame_any {w : World} {N1 N2 d r : Nat} {s q : Ds} {F : List Fv} {ρ1 ρ2 : Rho} {φ : Nat → Nat} (hd : DkX N1 w d s ρ1) (hr : RfX N2 w r q F ρ2) (hs : SimD φ s q) (hl : s.left = q.left) (hst : q.steps ≤ 1000000) :
    Calls Try.prog 10 #[.pointer (some ⟨d, 0, none⟩), .pointer (some ⟨r, 0, none⟩)] w fun e w' => e = .returned (.bool true) ∧ Same w w' := by
  have HD : Hid (DkX N1 w d s ρ1) := hd
  have HR : Hid (RfX N2 w r q F ρ2) := hr
  have HS : Hid (SimD φ s q ∧ s.left = q.left ∧ q.steps ≤ 1000000 ∧ s.steps ≤ 1000000) := hid ⟨hs, hl, hst, by rw [hs.steps]; exact hst⟩
  have hnm : namS s = namS q := by
    unfold namS
    rw [hl, hs.nam]
  have hus : useS s = useS q := by
    unfold useS
    rw [hl, hs.used]
  obtain ⟨L, hL⟩ : ∃ L, L = namS q := ⟨_, rfl⟩
  have HNM : Hid (namS s = L ∧ namS q = L ∧ useS s = useS q ∧ s.steps = q.steps) := hid ⟨by rw [hnm, hL], hL.symm, hus, hs.steps⟩
  have HN1 := xnames hd (by rw [hs.steps]; exact hst)
  rw [hnm, ← hL] at HN1
  have HLL : Hid (L.length ≤ 1000000) := hid (by
    rw [hL]
    unfold namS
    split
    · simp
    · rw [List.length_map]
      obtain ⟨_, _, _, _, h9, _⟩ := hr
      have := h9.lens
      omega)
  clear hd hr hs hl hst hnm hus hL
  go_enter Try.func10, Try.ntmps10
  go_wp2_with fail
  refine HN1.mono ?_
  rintro e w1 ⟨v1, rfl, h1, k1, _⟩
  have H1 : Hid (RowE w.heap.size 9 strV w1 v1 L ∧ Same w w1) := hid ⟨h1, k1⟩
  obtain ⟨a1, c1, hv1, _⟩ := h1.shape
  obtain ⟨n1, hn1⟩ : ∃ n, n = L.length := ⟨_, rfl⟩
  rw [← hn1] at hv1
  subst hv1
  have HN : Hid (n1 = L.length) := hn1
  clear HN1 h1 k1 hn1
  have HN2 : Calls Try.prog 32 #[.pointer (some ⟨r, 0, none⟩)] w1 fun e w' => ∃ v, e = .returned v ∧ RowE w1.heap.size 9 strV w' v L ∧ Same w1 w' := by
    obtain ⟨_, _, _, _, h9, _⟩ := HR.out
    have h8 := rnames_any (h9.same H1.out.2) HS.out.2.2.1
    rw [HNM.out.2.1] at h8
    exact h8
  go_wp2_with fail
  refine HN2.mono ?_
  rintro e w2 ⟨v2, rfl, h2, k2⟩
  have H2 : Hid (RowE w1.heap.size 9 strV w2 v2 L ∧ RowE w.heap.size 9 strV w2 (.slice a1 n1 c1) L ∧ Same w w2) := hid ⟨h2, H1.out.1.kept k2 (fun _ _ f => f), Same.trans H1.out.2 k2⟩
  obtain ⟨a2, c2, hv2, hg2, _⟩ := h2.shape
  rw [← HN.out] at hv2
  subst hv2
  have HG2 : Hid (L ≠ [] → ∃ g, a2 = some ⟨g, 0, none⟩) := hg2
  clear HN2 h2 k2 hg2
  have HTX : Hid (∀ w', Same w2 w' → Calls Try.prog 25 #[.slice a1 n1 c1, .slice a2 n1 c2] w' fun e w3 => e = .returned (.bool true) ∧ Same w' w3) := hid (fun w' hk => xtexts_same w' _ _ _ _ L (SrcE.ofRow (H2.out.2.1.kept hk (fun _ _ f => f))) (SrcE.ofRow (H2.out.1.kept hk (fun _ _ f => f))) HLL.out)
  have HU1 : Hid (∀ w', Same w2 w' → Calls Try.prog 29 #[.pointer (some ⟨d, 0, none⟩)] w' fun e w3 => e = .returned (.int .i64 (useS q : Nat)) ∧ Same w' w3) := hid (fun w' hk => by
    have h9 := xused (HD.out.same (Same.trans H2.out.2.2 hk)) HS.out.2.2.2
    rw [HNM.out.2.2.1] at h9
    exact h9)
  have HU2 : Hid (∀ w', Same w2 w' → Calls Try.prog 33 #[.pointer (some ⟨r, 0, none⟩)] w' fun e w3 => e = .returned (.int .i64 (useS q : Nat)) ∧ Same w' w3) := hid (fun w' hk => by
    obtain ⟨_, _, _, _, h9, _⟩ := HR.out
    exact rused_any (h9.same (Same.trans H2.out.2.2 hk)) HS.out.2.2.1)
  have HS1 : Hid (∀ w', Same w2 w' → Calls Try.prog 28 #[.pointer (some ⟨d, 0, none⟩)] w' fun e w3 => e = .returned (.int .i64 (q.steps : Nat)) ∧ w3 = w') := hid (fun w' hk => by
    have h9 := xsteps (HD.out.same (Same.trans H2.out.2.2 hk))
    rw [HNM.out.2.2.2] at h9
    exact h9)
  have HD1 : Hid (∀ w', Same w2 w' → Calls Try.prog 26 #[.pointer (some ⟨d, 0, none⟩)] w' fun e w3 => e = .returned (.bool (q.left == 0)) ∧ w3 = w') := hid (fun w' hk => by
    have h9 := xdown (HD.out.same (Same.trans H2.out.2.2 hk))
    rw [HS.out.2.1] at h9
    exact h9)
  have HD2 : Hid (∀ w', Same w2 w' → Calls Try.prog 34 #[.pointer (some ⟨r, 0, none⟩)] w' fun e w3 => e = .returned (.bool (q.left == 0)) ∧ w3 = w') := hid (fun w' hk => by
    obtain ⟨_, _, _, _, h9, _⟩ := HR.out
    exact rdown_any w' r q.left ((h9.same (Same.trans H2.out.2.2 hk)).blk.cell 6))
  obtain ⟨dn, hdn⟩ : ∃ b, b = (q.left == 0) := ⟨_, rfl⟩
  obtain ⟨us, hus⟩ : ∃ n, n = useS q := ⟨_, rfl⟩
  obtain ⟨sp, hsp⟩ : ∃ n, n = q.steps := ⟨_, rfl⟩
  have c5 : w2.cell? ⟨r, 5, none⟩ = some (.int .i64 (sp : Nat)) := by
    rw [hsp]
    obtain ⟨_, _, _, _, h9, _⟩ := HR.out
    exact (h9.same H2.out.2.2).blk.cell 5
  rw [← hdn] at HD1 HD2
  rw [← hus] at HU1 HU2
  rw [← hsp] at HS1
  clear hdn hus hsp
  go_wp2_with fail
  go_region_held3 (fun w' => w'.cell? ⟨r, 5, none⟩ = some (.int .i64 (sp : Nat)))
    (first | (go_split_ands; assumption) | (go_split_ands; exact k3.cell (by assumption) (fun f => f)) | (go_split_ands; exact k4.cell (by assumption) (fun f => f)) | (go_split_ands; exact k5.cell (by assumption) (fun f => f)) | go_keep)
    (first
      | (go_at_call 25; refine (HTX.out _ (by first | exact (Kept.refl _ _).drew | exact Kept.refl _ _)).mono ?_; rintro e w3 ⟨rfl, k3⟩; have HK3 : Hid (Same w2 w3) := hid (Kept.undrew9 k3))
      | (go_at_call 29; refine (HU1.out _ (by first | exact HK3.out | exact HK5.out)).mono ?_; rintro e w4 ⟨rfl, k4⟩; have HK4 : Hid (Same w2 w4) := hid (by first | exact Same.trans HK3.out k4 | exact Same.trans HK5.out k4))
      | (go_at_call 33; refine (HU2.out _ (by first | exact HK4.out | exact HK3.out)).mono ?_; rintro e w5 ⟨rfl, k5⟩; have HK5 : Hid (Same w2 w5) := hid (by first | exact Same.trans HK4.out k5 | exact Same.trans HK3.out k5))
      | (go_at_call 28; refine (HS1.out _ (by first | exact HK5.out | exact HK4.out)).mono ?_; rintro e w6 ⟨rfl, hw6⟩; subst hw6)
      | (go_at_call 26; refine (HD1.out _ (by first | exact HK5.out | exact HK4.out)).mono ?_; rintro e w7 ⟨rfl, hw7⟩; subst hw7)
      | (go_at_call 34; refine (HD2.out _ (by first | exact HK5.out | exact HK4.out)).mono ?_; rintro e w8 ⟨rfl, hw8⟩; subst hw8))
  all_goals
    have H5 : Hid (Same w w8) := hid (Same.trans H2.out.2.2 HK5.out)
    have HW : Hid (∀ w', Same w8 w' → ∀ j (hj : j < n1), ∃ g t, a2 = some ⟨g, 0, none⟩ ∧ w'.cell? ⟨g, j, none⟩ = some (.string t) ∧ t.size ≤ 100000) := hid (fun w' hk j hj => by
      have hjL : j < L.length := by have := HN.out; omega
      obtain ⟨g, hg⟩ := HG2.out (fun e => by rw [e] at hjL; simp at hjL)
      have h9 := (H2.out.1.kept (Same.trans HK5.out hk) (fun _ _ f => f))
      rw [hg] at h9
      refine ⟨g, L[j], hg, RowE.cell h9 j hjL, ?_⟩
      have hm : L[j] ∈ namS s := by rw [HNM.out.1]; exact List.getElem_mem _
      unfold namS at hm
      split at hm
      · cases hm
      · obtain ⟨p, hp, e⟩ := List.mem_map.1 hm
        obtain ⟨_, _, _, h8⟩ := HD.out
        rw [← e]
        exact h8.txs.2.1 p hp)
    clear k3 k4 k5 c5
    go_wp2_with fail
    go_loopg [7] n1 (fun qq z wr => ∃ i : Nat, z = .int .i64 (i : Nat) ∧ i ≤ n1 ∧ n1 - i ≤ qq ∧ Hid (Same w8 wr))
    case atStart => exact ⟨0, rfl, by omega, by omega, hid (by first | exact Kept.refl _ _ | exact (Kept.refl _ _).drew)⟩
    case round =>
      obtain ⟨i, rfl, hi, hiq, HI⟩ := hrel
      by_cases hlt : i < n1
      · have b1 : decide (i < n1) = true := by simp; omega
        obtain ⟨g, t, hg, k0, hts⟩ := HW.out wr HI.out i hlt
        subst hg
        have i1 : (0 : Int) ≤ (i : Int) := by omega
        have i2 : (i : Int) < (n1 : Int) := by omega
        have hiw : IntKind.i64.wrap ((i : Int) + 1) = ((i + 1 : Nat) : Int) := by rw [IntKind.wrap_i64]; have := HN.out; have := HLL.out; omega
        have HX : Hid (i < n1) := hlt
        have HWr : Hid (Same w wr) := hid (Same.trans H5.out HI.out)
        have hrs := HS.out.1.rea (by rw [HS.out.2.1]) t
        have HR1 := xread (HD.out.same HWr.out) t hts
        rw [hrs] at HR1
        have HCC : Hid (∀ w', Same wr w' → w'.cell? ⟨g, i, none⟩ = some (.string t)) := hid (fun w' hk => hk.cell k0 (fun f => f))
        have HR2 : Hid (∀ w', Same wr w' → Calls Try.prog 35 #[.pointer (some ⟨r, 0, none⟩), .string t] w' fun e w2 => RrdA w' ρ2 (reaS q t) e w2) := hid (fun w' hk => by
          obtain ⟨_, _, _, _, h9, _⟩ := HR.out
          exact rread_any (h9.same (Same.trans HWr.out hk)) HS.out.2.2.1 t)
        have HBL : Hid (∀ bs, reaS q t = .ok bs → bs.length ≤ 4194304) := hid (fun bs e => by
          rw [← hrs] at e
          unfold reaS at e
          split at e
          · cases e
          · cases hg : getN t s.names with
            | none => rw [hg] at e; cases e
            | some f =>
              rw [hg] at e
              cases e
              obtain ⟨_, _, _, h9⟩ := HD.out
              have h8 := (h9.okf f (h9.nmf _ (getN_mem hg))).2.1
              have := h9.room
              omega)
        clear hlt hrs
        go_wp2_with fail
        refine HR1.mono ?_
        rintro e y6 ⟨hno, hok⟩
        clear HR1
        cases hre : reaS q t with
        | error k =>
          obtain ⟨rfl, hw6⟩ := hno k hre
          subst hw6
          have HRE : Hid (reaS q t = .error k) := hre
          clear hno hok hre
          have HR3 := HR2.out y6 (Kept.refl _ _)
          go_wp2_with fail
          refine HR3.mono ?_
          rintro e y7 ⟨hw7, hno2, _⟩
          subst hw7
          have he2 := hno2 k HRE.out
          subst he2
          clear HR3 hno2
          have HB := xbytes y7 (.slice none 0 0) (.slice none 0 0) (fun _ => False) (fun _ => False) [] [] ⟨none, 0, rfl, fun h => absurd rfl h⟩ ⟨none, 0, rfl, fun h => absurd rfl h⟩ (by decide) (by decide)
          rw [show decide (([] : List Nat) = []) = true from rfl] at HB
          go_wp2_with fail
          refine HB.mono ?_
          rintro e y8 ⟨rfl, k8⟩
          have H8 : Hid (Same w8 y8) := hid (Same.trans HI.out k8)
          clear HB k8
          go_wp2_with fail
          refine (spoil_none _).mono ?_
          rintro e y9 ⟨rfl, k9⟩
          have H9 : Hid (Same w8 y9) := hid (Same.trans H8.out k9)
          clear k9
          go_wp2_with fail
          go_roundg (gk - 1)
          case measure => have := HX.out; omega
          case rel => exact ⟨i + 1, by go_num, by have := HX.out; omega, by have := HX.out; omega, H9⟩
        | ok bs =>
          obtain ⟨v6, rfl, hf6, hwh6⟩ := hok bs hre
          have HRE : Hid (reaS q t = .ok bs) := hre
          have H6 : Hid (Fresh wr y6 v6 bs ∧ Whole y6 v6) := hid ⟨hf6, hwh6⟩
          obtain ⟨a6, c6, hv6, _⟩ := hf6.row.shape
          obtain ⟨n6, hn6⟩ : ∃ n, n = bs.length := ⟨_, rfl⟩
          rw [← hn6] at hv6
          subst hv6
          have HR3 := HR2.out y6 hf6.kept
          have k6 := HCC.out y6 hf6.kept
          clear hno hok hre hf6 hwh6 hn6
          go_wp2_with fail
          refine HR3.mono ?_
          rintro e y7 ⟨hw7, _, hok2⟩
          subst hw7
          obtain ⟨a7, n7, c7, he2, hs7⟩ := hok2 bs HRE.out
          subst he2
          have hbl := HBL.out bs HRE.out
          have HB := xbytes y7 (.slice a6 n6 c6) (.slice a7 n7 c7) _ _ bs bs (Src.ofRow H6.out.1.row) hs7 (by omega) (by omega)
          rw [decide_eq_true rfl] at HB
          clear HR3 hok2 hs7 hbl
          go_wp2_with fail
          refine HB.mono ?_
          rintro e y8 ⟨rfl, k8⟩
          have HSP := spoil_row y8 (.slice a6 n6 c6) bs (H6.out.1.row.kept k8 (fun _ _ f => f)) (H6.out.2.kept k8 (fun _ _ f => f))
          have H8 : Hid (Same y7 y8) := k8
          clear HB k8
          go_wp2_with fail
          refine HSP.mono ?_
          rintro e y9 ⟨rfl, k9⟩
          have H9 : Hid (Same w8 y9) := hid (Kept.trans (Same.trans HI.out (Same.trans H6.out.1.kept H8.out)) k9 (fun _ _ f => f) (fun k hk e => by have := H6.out.1.new k e; have := HI.out.size; omega))
          clear HSP k9
          go_wp2_with fail
          go_roundg (gk - 1)
          case measure => have := HX.out; omega
          case rel => exact ⟨i + 1, by go_num, by have := HX.out; omega, by have := HX.out; omega, H9⟩
      · have b1 : decide (i < n1) = false := by simp; omega
        go_wp2_with fail
        go_ret
        exact ⟨rfl, Same.trans H5.out HI.out⟩

end Go.Proofs.Ytjcobogajkfnmaa
