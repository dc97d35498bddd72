/-
  Lists of tenants: which may be (package tenants).
-/
import Derived.Test.YtjlkchjcmiljjaaDoorSho
import Derived.Test.YtjlkchjcmiljjaaDoorNmK
import Derived.Test.YtjlkchjcmiljjaaDoorArr
namespace Go.Proofs.YtjlkchjcmiljjaaDoor
open Go.RowKit Go.Maps Go.Shelf

/-- A tenant, as it came in. -/
structure Tn where
  n : ByteArray
  k : ByteArray
  b : Int
  e : Int
  ok : n.size ≤ maxLen

instance : Inhabited Tn := ⟨⟨⟨#[]⟩, ⟨#[]⟩, 0, 0, Nat.zero_le _⟩⟩

def Tn.nm (t : Tn) : Nm := ⟨t.n, t.ok⟩
def tnE (t : Tn) : List Value := [.string t.n, .string t.k, .int .i64 t.b, .int .i64 t.e]
theorem tnE_ok : EncOk tnE 4 := ⟨fun _ => rfl, fun x u hu => by simp [tnE] at hu; rcases hu with rfl | rfl | rfl | rfl <;> rfl, by decide⟩

def shrB (z : Int) : Bool := decide (0 ≤ z ∧ z ≤ 1000000000)
def tnB (t : Tn) : Bool := sho t.n && (decide (t.k.size ≤ 64) && (shrB t.b && shrB t.e))

theorem short_is (w : World) (s : ByteArray) (b : Bool) (h : sho s = b) : Calls Tryd.prog 40 #[.string s] w fun e w' => e = .returned (.bool b) ∧ Same w w' := by rw [← h]; exact short_any w s

theorem isShare_any (w : World) (n : Int) (b : Bool) (hb : shrB n = b) : Calls Tryd.prog 41 #[.int .i64 n] w fun e w' => e = .returned (.bool b) ∧ Same w w' := by
  unfold shrB at hb
  by_cases h1 : 0 ≤ n
  · by_cases h2 : n ≤ 1000000000
    · obtain rfl : true = b := by rw [← hb]; simp [h1, h2]
      clear hb
      go_enter Tryd.func41, Tryd.ntmps41
      go_wp2_with fail
      go_ret
      exact ⟨rfl, Kept.refl _ _⟩
    · obtain rfl : false = b := by rw [← hb]; simp [h2]
      have h3 : decide (n ≤ 1000000000) = false := decide_eq_false h2
      clear hb
      go_enter Tryd.func41, Tryd.ntmps41
      go_wp2_with fail
      go_ret
      exact ⟨rfl, Kept.refl _ _⟩
  · obtain rfl : false = b := by rw [← hb]; simp [h1]
    have h3 : decide (0 ≤ n) = false := decide_eq_false h1
    clear hb
    go_enter Tryd.func41, Tryd.ntmps41
    go_wp2_with fail
    go_ret
    exact ⟨rfl, Kept.refl _ _⟩

theorem Blk.c4 {w : World} {g : Nat} {a b c d : Value} {t : TypeId} (hb : Blk w g #[a, b, c, d] t) : w.cell? ⟨g, 0, none⟩ = some a ∧ w.cell? ⟨g, 1, none⟩ = some b ∧ w.cell? ⟨g, 2, none⟩ = some c ∧ w.cell? ⟨g, 3, none⟩ = some d :=
  ⟨hb.cell 0, hb.cell 1, hb.cell 2, hb.cell 3⟩

set_option maxRecDepth 100000 in
set_option maxHeartbeats 1000000 in
theorem tenMay_any (w : World) (t : Tn) (b : Bool) (hb : tnB t = b) : Calls Tryd.prog 35 #[.agg #[.string t.n, .string t.k, .int .i64 t.b, .int .i64 t.e]] w fun e w' => e = .returned (.bool b) ∧ Same w w' := by
  obtain ⟨W1, hW1⟩ : ∃ W, W = w.alloc (.cells #[.string t.n, .string t.k, .int .i64 t.b, .int .i64 t.e] 29) := ⟨_, rfl⟩
  obtain ⟨xb, hxb⟩ : ∃ b, b = w.heap.size := ⟨_, rfl⟩
  have HK1 : Hid (Same w W1) := hid (by rw [hW1]; exact (Kept.refl _ w).alloc _)
  have HB : Hid (Blk W1 xb #[.string t.n, .string t.k, .int .i64 t.b, .int .i64 t.e] 29) := hid (by rw [hW1, hxb]; exact Blk.new w _ _)
  obtain ⟨x0, _, _, _⟩ := HB.out.c4
  obtain ⟨s, hs⟩ : ∃ s, s = sho t.n := ⟨_, rfl⟩
  have HS := short_is W1 t.n s hs.symm
  obtain ⟨b1, hb1⟩ : ∃ s, s = shrB t.b := ⟨_, rfl⟩
  obtain ⟨b2, hb2⟩ : ∃ s, s = shrB t.e := ⟨_, rfl⟩
  have HI1 : Hid (∀ W, Calls Tryd.prog 41 #[.int .i64 t.b] W fun e w' => e = .returned (.bool b1) ∧ Same W w') := hid (fun W => isShare_any W t.b b1 hb1.symm)
  have HI2 : Hid (∀ W, Calls Tryd.prog 41 #[.int .i64 t.e] W fun e w' => e = .returned (.bool b2) ∧ Same W w') := hid (fun W => isShare_any W t.e b2 hb2.symm)
  unfold tnB at hb
  rw [← hs, ← hb1, ← hb2] at hb
  have HBB := hid hb
  clear hs hb1 hb2 hb
  go_enter Tryd.func35, Tryd.ntmps35
  go_upto_region 1 with fail
  rw [← hW1, ← hxb]
  clear hW1 hxb
  go_wp2_with fail
  refine HS.mono ?_
  rintro e w2 ⟨rfl, hk2⟩
  have HB2 := hid (HB.out.kept hk2 (fun f => f))
  have HK2 := hid (Same.trans HK1.out hk2)
  obtain ⟨x0, x1, x2, x3⟩ := HB2.out.c4
  clear hk2 HS HB
  cases s with
  | false =>
    go_wp2_with fail
    go_ret
    exact ⟨by rw [← HBB.out]; rfl, HK2.out⟩
  | true =>
    by_cases hk : t.k.size ≤ 64
    · have hki : (t.k.size : Int) ≤ 64 := by omega
      have HBC : Hid ((b1 && b2) = b) := hid (by have h9 := HBB.out; rw [decide_eq_true hk] at h9; simpa using h9)
      clear hk
      go_wp2_with fail
      refine (HI1.out _).mono ?_
      rintro e w3 ⟨rfl, hk3⟩
      have HB3 := hid (HB2.out.kept hk3 (fun f => f))
      have HK3 := hid (Same.trans HK2.out hk3)
      clear hk3 x0 x1 x2 x3
      have x3 := HB3.out.c4.2.2.2
      cases b1 with
      | false =>
        go_wp2_with fail
        go_ret
        exact ⟨by rw [← HBC.out]; rfl, HK3.out⟩
      | true =>
        go_wp2_with fail
        refine (HI2.out _).mono ?_
        rintro e w4 ⟨rfl, hk4⟩
        have HK4 := hid (Same.trans HK3.out hk4)
        clear hk4
        cases b2 with
        | false =>
          go_wp2_with fail
          go_ret
          exact ⟨by rw [← HBC.out]; rfl, HK4.out⟩
        | true =>
          go_wp2_with fail
          go_ret
          exact ⟨by rw [← HBC.out]; rfl, HK4.out⟩
    · have hki : decide ((t.k.size : Int) ≤ 64) = false := by simp; omega
      have HBC : Hid (false = b) := hid (by have h9 := HBB.out; rw [decide_eq_false hk] at h9; simpa using h9)
      clear hk
      go_wp2_with fail
      go_ret
      exact ⟨by rw [← HBC.out]; rfl, HK2.out⟩

/-- May tenants be? -/
def GoodT (xs : List Tn) : Prop := (∀ t ∈ xs, tnB t = true) ∧ xs.Pairwise (fun a b => a.n ≠ b.n)

theorem SrcC.at4 {w : World} {I : Nat → Prop} {ao : Option Addr} {n c : Nat} {xs : List Tn} (h : SrcC 4 tnE w I (.slice ao n c) xs) (j : Nat) (hj : j < n) : ∃ b o t, ao = some ⟨b, o, none⟩ ∧ I b ∧ xs[j]? = some t ∧ w.cell? ⟨b, o + j * 4, none⟩ = some (.string t.n) ∧ w.cell? ⟨b, o + j * 4 + 1, none⟩ = some (.string t.k) ∧ w.cell? ⟨b, o + j * 4 + 2, none⟩ = some (.int .i64 t.b) ∧ w.cell? ⟨b, o + j * 4 + 3, none⟩ = some (.int .i64 t.e) := by
  obtain ⟨a', c', e, hl, hc⟩ := h
  injection e with e1 e2 e3
  have hjx : j < xs.length := by omega
  obtain ⟨b, o, h1, h2, h3⟩ := hc (fun e => by rw [e] at hjx; simp at hjx)
  refine ⟨b, o, xs[j], e1.trans h1, h2, List.getElem?_eq_getElem hjx, ?_, ?_, ?_, ?_⟩
  · exact h3 j hjx 0 (by omega)
  · exact h3 j hjx 1 (by omega)
  · exact h3 j hjx 2 (by omega)
  · exact h3 j hjx 3 (by omega)

theorem SrcC.len4 {w : World} {I : Nat → Prop} {ao : Option Addr} {n c : Nat} {xs : List Tn} (h : SrcC 4 tnE w I (.slice ao n c) xs) : n = xs.length ∧ n ≤ c := by
  obtain ⟨a', c', e, hl, hc⟩ := h
  injection e with e1 e2 e3
  omega

theorem SrcC.head4 {w : World} {I : Nat → Prop} {ao : Option Addr} {n c : Nat} {xs : List Tn} (h : SrcC 4 tnE w I (.slice ao n c) xs) (i : Nat) (hi : i ≤ n) : SrcC 4 tnE w I (.slice ao i c) (xs.take i) := by
  obtain ⟨a', c', e, hl, hc⟩ := h
  injection e with e1 e2 e3
  subst e1 e3
  refine ⟨ao, c, by rw [List.length_take, Nat.min_eq_left (by omega)], by rw [List.length_take]; omega, fun hne => ?_⟩
  obtain ⟨b, o, h1, h2, h3⟩ := hc (fun e => by rw [e] at hne; simp at hne)
  refine ⟨b, o, h1, h2, fun j hj k hk => ?_⟩
  rw [List.length_take] at hj
  rw [h3 j (by omega) k hk, List.getElem_take]

theorem str_eqT (s t : ByteArray) : (s.toList == t.toList) = decide (s = t) := by
  rw [Lib.toList_data, Lib.toList_data]
  by_cases h : s = t
  · subst h; simp
  · simp only [h, decide_false]
    refine beq_eq_false_iff_ne.2 (fun e => h ?_)
    cases s
    cases t
    simp only at e
    rw [Array.toList_inj] at e
    rw [e]

set_option maxHeartbeats 400000 in
theorem tnamed1_any (w : World) (y : Tn) (s : ByteArray) (g : Nat) (hg : w.cell? ⟨g, 0, none⟩ = some (.string s)) :
    Calls Tryd.prog 43 #[.agg #[.string y.n, .string y.k, .int .i64 y.b, .int .i64 y.e], .pointer (some ⟨g, 0, none⟩)] w fun e w' => e = .returned (.bool (decide (y.n = s))) ∧ Same w w' := by
  have hg9 : ∀ o, (w.alloc o).cell? ⟨g, 0, none⟩ = some (.string s) := fun o => (show Same w (w.alloc o) from (Kept.refl _ w).alloc o).cell hg (fun f => f)
  have hq := str_eqT y.n s
  obtain ⟨B, hB⟩ : ∃ B, B = decide (y.n = s) := ⟨_, rfl⟩
  rw [← hB] at hq ⊢
  clear hB
  go_enter Tryd.func43, Tryd.ntmps43
  go_wp2_with fail
  go_ret
  exact ⟨rfl, (Kept.refl _ w).alloc _⟩

abbrev tnamedV (g : Nat) : Value := .func (.func 43) #[] #[.pointer (some ⟨g, 0, none⟩)]

/-- Has one of the tenants this name? -/
def hasN (xs : List Tn) (s : ByteArray) : Bool := xs.any (fun t => decide (t.n = s))

theorem hasN_succ {xs : List Tn} {s : ByteArray} {i : Nat} {t : Tn} (h : xs[i]? = some t) : hasN (xs.take (i + 1)) s = (hasN (xs.take i) s || decide (t.n = s)) := by
  unfold hasN
  rw [List.take_add_one, h, List.any_append]
  simp

theorem hasN_mem {xs : List Tn} {s : ByteArray} : hasN xs s = true ↔ ∃ t ∈ xs, t.n = s := by
  unfold hasN
  rw [List.any_eq_true]
  simp

set_option maxRecDepth 100000 in
set_option maxHeartbeats 1000000 in
theorem tindex_any (w : World) (a : Option Addr) (len cap : Nat) (xs : List Tn) (s : ByteArray) (g : Nat) (I : Nat → Prop) (hs : SrcC 4 tnE w I (.slice a len cap) xs) (hg : w.cell? ⟨g, 0, none⟩ = some (.string s)) (hn : len ≤ 10000000) :
    Calls Tryd.prog 45 #[.slice a len cap, tnamedV g] w fun e w' => (∃ z : Int, e = .returned (.int .i64 z) ∧ decide (0 ≤ z) = hasN xs s) ∧ Same w w' := by
  have HS := hid hs
  have HL := hid hs.len4
  have HG := hid hg
  clear hs hg
  go_enter Tryd.func45, Tryd.ntmps45
  go_wp2_with fail
  go_loopg [8] len (fun k z wr => ∃ i : Nat, len - i ≤ k ∧ i ≤ len ∧ z = .int .i64 (i : Nat) ∧ Hid (hasN (xs.take i) s = false) ∧ Hid (Same w wr))
  case atStart => exact ⟨0, by omega, by omega, rfl, hid rfl, hid (Kept.refl _ _)⟩
  case round =>
    obtain ⟨i, hk, hil, rfl, HF, HK⟩ := hrel
    by_cases hlt : i < len
    · have hli : decide (i < len) = true := by simp; omega
      obtain ⟨b, o, y, ha, _, hy, c0, c1, c2, c3⟩ := HS.out.at4 i hlt
      subst ha
      have c0 := HK.out.cell c0 (fun f => f)
      have c1 := HK.out.cell c1 (fun f => f)
      have c2 := HK.out.cell c2 (fun f => f)
      have c3 := HK.out.cell c3 (fun f => f)
      have HY := hid (hasN_succ (s := s) hy)
      have HM := hid (List.mem_of_getElem? hy)
      have HC := tnamed1_any wr y s g (HK.out.cell HG.out (fun f => f))
      have hiw : IntKind.i64.wrap ((i : Int) + 1) = ((i + 1 : Nat) : Int) := by rw [IntKind.wrap_i64]; omega
      clear hy
      cases hb : decide (y.n = s) with
      | true =>
        rw [hb] at HC
        have HB : Hid (y.n = s) := hid (of_decide_eq_true hb)
        clear hb
        go_wp2_with fail
        refine HC.mono ?_
        rintro e w2 ⟨rfl, hk2⟩
        have HK2 : Hid (Same w w2) := hid (Same.trans HK.out hk2)
        clear hk2 HC
        go_wp2_with fail
        go_ret
        refine ⟨⟨_, rfl, ?_⟩, HK2.out⟩
        rw [hasN_mem.2 ⟨y, HM.out, HB.out⟩]
        simp
      | false =>
        rw [hb] at HC
        have HB : Hid (decide (y.n = s) = false) := hid hb
        clear hb
        go_wp2_with fail
        refine HC.mono ?_
        rintro e w2 ⟨rfl, hk2⟩
        have HK2 : Hid (Same w w2) := hid (Same.trans HK.out hk2)
        clear hk2 HC
        go_wp2_with fail
        go_roundg (gk - 1)
        case measure => omega
        case rel => exact ⟨i + 1, by omega, by omega, by go_num, hid (by rw [HY.out, HF.out, HB.out]; rfl), HK2⟩
    · have hli : decide (i < len) = false := by simp; omega
      obtain rfl : i = len := by omega
      have ht : xs.take i = xs := List.take_of_length_le (by have := HL.out; omega)
      rw [ht] at HF
      clear ht
      go_wp2_with fail
      go_ret
      refine ⟨⟨_, rfl, ?_⟩, HK.out⟩
      rw [HF.out]
      simp

set_option maxHeartbeats 1000000 in
theorem tcontains_any (w : World) (a : Option Addr) (len cap : Nat) (xs : List Tn) (s : ByteArray) (g : Nat) (I : Nat → Prop) (hs : SrcC 4 tnE w I (.slice a len cap) xs) (hg : w.cell? ⟨g, 0, none⟩ = some (.string s)) (hn : len ≤ 10000000) :
    Calls Tryd.prog 42 #[.slice a len cap, tnamedV g] w fun e w' => e = .returned (.bool (hasN xs s)) ∧ Same w w' := by
  have H := tindex_any w a len cap xs s g I hs hg hn
  clear hs hg
  go_enter Tryd.func42, Tryd.ntmps42
  go_wp2_with fail
  refine H.mono ?_
  rintro e w2 ⟨⟨z, rfl, hz⟩, hk⟩
  have HZ : Hid (decide (0 ≤ z) = hasN xs s) := hid hz
  have HK : Hid (Same w w2) := hid hk
  clear hz hk H
  go_wp2_with fail
  go_ret
  exact ⟨by rw [← HZ.out]; rfl, HK.out⟩

set_option maxHeartbeats 1000000 in
theorem tnamed_any (w : World) (a : Option Addr) (len cap : Nat) (xs : List Tn) (s : ByteArray) (I : Nat → Prop) (hs : SrcC 4 tnE w I (.slice a len cap) xs) (hn : len ≤ 10000000) :
    Calls Tryd.prog 36 #[.slice a len cap, .string s] w fun e w' => e = .returned (.bool (hasN xs s)) ∧ Same w w' := by
  obtain ⟨W1, hW1⟩ : ∃ W, W = w.alloc (.cells #[.string s] 9) := ⟨_, rfl⟩
  obtain ⟨g, hg⟩ : ∃ b, b = w.heap.size := ⟨_, rfl⟩
  have hk1 : Same w W1 := by rw [hW1]; exact (Kept.refl _ w).alloc _
  have hB : Blk W1 g #[.string s] 9 := by rw [hW1, hg]; exact Blk.new w _ _
  have H := tcontains_any W1 a len cap xs s g I (hs.kept tnE_ok hk1 (fun _ _ _ f => f)) (hB.cell 0) hn
  have HK1 := hid hk1
  clear hs hk1 hB
  go_enter Tryd.func36, Tryd.ntmps36
  go_upto_region 1 with fail
  rw [← hW1, ← hg]
  clear hW1 hg
  go_wp2_with fail
  refine H.mono ?_
  rintro e w2 ⟨rfl, hk⟩
  have HK : Hid (Same w w2) := hid (Same.trans HK1.out hk)
  clear hk H
  go_wp2_with fail
  go_ret
  exact ⟨rfl, HK.out⟩

/-- What Check says of tenants. -/
def CkT (xs : List Tn) (z : Int) : Prop := (8 < xs.length ∧ z = 2) ∨ (xs.length ≤ 8 ∧ ¬ GoodT xs ∧ z = 1) ∨ (xs.length ≤ 8 ∧ GoodT xs ∧ z = 0)

theorem CkT.det {xs : List Tn} {y z : Int} (h : CkT xs y) (h' : CkT xs z) : y = z := by
  rcases h with ⟨h1, rfl⟩ | ⟨h1, h2, rfl⟩ | ⟨h1, h2, rfl⟩ <;> rcases h' with ⟨k1, rfl⟩ | ⟨k1, k2, rfl⟩ | ⟨k1, k2, rfl⟩ <;> first | rfl | omega | exact absurd h2 k2 | exact absurd k2 h2

theorem CkT.ex (xs : List Tn) : ∃ z, CkT xs z := by
  by_cases h : 8 < xs.length
  · exact ⟨2, .inl ⟨h, rfl⟩⟩
  · by_cases g : GoodT xs
    · exact ⟨0, .inr (.inr ⟨by omega, g, rfl⟩)⟩
    · exact ⟨1, .inr (.inl ⟨by omega, g, rfl⟩)⟩

theorem CkT.zero {xs : List Tn} (h : CkT xs 0) : xs.length ≤ 8 ∧ GoodT xs := by
  rcases h with ⟨_, h⟩ | ⟨_, _, h⟩ | ⟨h1, h2, _⟩
  · cases h
  · cases h
  · exact ⟨h1, h2⟩

theorem GoodT.snoc {xs : List Tn} {i : Nat} {t : Tn} (h : xs[i]? = some t) (hg : GoodT (xs.take i)) (hm : tnB t = true) (hn : hasN (xs.take i) t.n = false) : GoodT (xs.take (i + 1)) := by
  rw [List.take_add_one, h]
  refine ⟨fun y hy => ?_, ?_⟩
  · rcases List.mem_append.1 hy with hy | hy
    · exact hg.1 y hy
    · simp at hy; rw [hy]; exact hm
  · rw [List.pairwise_append]
    refine ⟨hg.2, by simp, fun a ha b hb e => ?_⟩
    simp at hb
    subst hb
    rw [hasN_mem.2 ⟨a, ha, e⟩] at hn
    cases hn

theorem GoodT.not_named {xs : List Tn} {i : Nat} {t : Tn} (h : xs[i]? = some t) (hn : hasN (xs.take i) t.n = true) : ¬ GoodT xs := fun hG => by
  obtain ⟨y, hy, e⟩ := hasN_mem.1 hn
  obtain ⟨hlt, ht⟩ := List.getElem?_eq_some_iff.1 h
  have h2 : xs = xs.take i ++ (t :: xs.drop (i + 1)) := by
    rw [← ht, List.getElem_cons_drop, List.take_append_drop]
  have h4 := hG.2
  rw [h2, List.pairwise_append] at h4
  exact h4.2.2 y hy t (by simp) e

theorem Tryd.sizeTn : (Tryd.prog.info? 29).map (·.size) = some 4 := by kernel_rfl

theorem load_cellT {ty : TypeId} {d : TypeDesc} (hu : Tryd.prog.underlying ty = some d) (hd : (match d with | .struct _ | .array _ _ => true | _ => false) = false) {W : World} {a : Addr} {v : Value} (hc : W.cell? a = some v) : (loadVar ty a).run Tryd.prog W = .ok v W := by
  have hagg : (isAgg ty).run Tryd.prog W = .ok false W := by
    unfold isAgg
    rw [Sem.run_bind, run_underlying hu W]
    cases d <;> simp_all
  simp [loadVar, Sem.run_bind, hagg, hc]

set_option maxRecDepth 100000 in
set_option maxHeartbeats 1000000 in
theorem tcheck_ex (w : World) (ao : Option Addr) (n c : Nat) (xs : List Tn) (I : Nat → Prop) (h : SrcC 4 tnE w I (.slice ao n c) xs) : Calls Tryd.prog 21 #[.slice ao n c] w fun e w' => (∃ z, e = .returned (.int .i64 z) ∧ CkT xs z) ∧ Same w w' := by
  have HS := hid h
  have HN := hid h.len4
  clear h
  by_cases h8 : 8 < n
  · have h8i : (8 : Int) < (n : Int) := by omega
    have H8 := hid h8
    clear h8
    go_enter Tryd.func21, Tryd.ntmps21
    go_wp2_with fail
    go_ret
    exact ⟨⟨2, rfl, .inl ⟨by rw [← HN.out.1]; exact H8.out, rfl⟩⟩, Kept.refl _ _⟩
  · have h8i : decide ((8 : Int) < (n : Int)) = false := by simp; omega
    have H8 : Hid (n ≤ 8) := hid (by omega)
    clear h8
    go_enter Tryd.func21, Tryd.ntmps21
    go_wp2_with fail
    go_loopg [10] n (fun qq z wr => ∃ i : Nat, z = .int .i64 (i : Nat) ∧ i ≤ n ∧ n - i ≤ qq ∧ Hid (GoodT (xs.take i) ∧ Same w wr))
    case atStart => exact ⟨0, rfl, by omega, by omega, hid ⟨⟨fun t ht => (by cases ht), List.Pairwise.nil⟩, Kept.refl _ _⟩⟩
    case round =>
      obtain ⟨i, rfl, hi, hiq, HI⟩ := hrel
      by_cases hlt : i < n
      · have hli : decide (i < n) = true := by simp; omega
        have hli2 : decide ((i : Int) < (n : Int)) = true := by simp; omega
        obtain ⟨b, o, t, rfl, _, ht, k0, k1, k2, k3⟩ := HS.out.at4 i hlt
        have k0 := HI.out.2.cell k0 (fun f => f)
        have k1 := HI.out.2.cell k1 (fun f => f)
        have k2 := HI.out.2.cell k2 (fun f => f)
        have k3 := HI.out.2.cell k3 (fun f => f)
        have i1 : (0 : Int) ≤ (i : Int) := by omega
        have i2 : (i : Int) < (n : Int) := by omega
        have i3 : (i : Int) ≤ (c : Int) := by have := HN.out; omega
        have i4 : i ≤ c := by have := HN.out; omega
        have hiw : IntKind.i64.wrap ((i : Int) + 1) = ((i + 1 : Nat) : Int) := by rw [IntKind.wrap_i64]; have := H8.out; omega
        obtain ⟨W4, hW4⟩ : ∃ W, W = wr.alloc (.cells #[.string t.n, .string t.k, .int .i64 t.b, .int .i64 t.e] 29) := ⟨_, rfl⟩
        obtain ⟨tb, htb⟩ : ∃ b, b = wr.heap.size := ⟨_, rfl⟩
        have hk4 : Same wr W4 := by rw [hW4]; exact (Kept.refl _ wr).alloc _
        have HC4 : Hid (Blk W4 tb #[.string t.n, .string t.k, .int .i64 t.b, .int .i64 t.e] 29) := hid (by rw [hW4, htb]; exact Blk.new wr _ _)
        have HK4 := hid (Same.trans HI.out.2 hk4)
        have HTT := hid ht
        have HLT := hid hlt
        have HLD : Hid (∀ W, Same W4 W → (loadVar 29 ⟨tb, 0, none⟩).run Tryd.prog W = .ok (.agg #[.string t.n, .string t.k, .int .i64 t.b, .int .i64 t.e]) W) := hid (fun W hW => run_load15 29 4 _ Tryd.underlying29 rfl Tryd.sizeTn (HC4.out.kept hW (fun f => f)) [.string t.n, .string t.k, .int .i64 t.b, .int .i64 t.e] rfl rfl)
        have HLN : Hid (∀ W, Same W4 W → (loadVar 9 ⟨tb, 0, none⟩).run Tryd.prog W = .ok (.string t.n) W) := hid (fun W hW => load_cellT Tryd.underlying9 rfl ((HC4.out.kept hW (fun f => f)).cell 0))
        obtain ⟨mb, hmb⟩ : ∃ b, b = tnB t := ⟨_, rfl⟩
        obtain ⟨nb, hnb⟩ : ∃ b, b = hasN (xs.take i) t.n := ⟨_, rfl⟩
        have HMB := hid hmb
        have HNB := hid hnb
        have HCM : Hid (∀ W, Same W4 W → Calls Tryd.prog 35 #[.agg #[.string t.n, .string t.k, .int .i64 t.b, .int .i64 t.e]] W fun e w' => e = .returned (.bool mb) ∧ Same W w') := hid (fun W _ => tenMay_any W t mb hmb.symm)
        have HCN : Hid (∀ W, Same W4 W → Calls Tryd.prog 36 #[.slice (some ⟨b, o, none⟩) i c, .string t.n] W fun e w' => e = .returned (.bool nb) ∧ Same W w') := hid (fun W hW => by rw [hnb]; exact tnamed_any W _ i c _ t.n I ((HS.out.kept tnE_ok (Same.trans HK4.out hW) (fun _ _ _ f => f)).head4 i (Nat.le_of_lt HLT.out)) (by have := H8.out; have := HLT.out; omega))
        clear hk4 ht hlt hmb hnb
        go_upto_region 6 with fail
        rw [← hW4, ← htb]
        clear hW4 htb k0 k1 k2 k3
        cases mb with
        | false =>
          refine wp_region_same (by kernel_rfl) (by kernel_rfl) ?_
          refine wpq_value rfl _ (fun W hW => run_load_op _ rfl (HLD.out W hW)) ?_
          simp only [Act.put, List.setIfInBounds_toArray, List.set_cons_zero, List.set_cons_succ]
          refine wpq_call rfl 35 #[.agg #[.string t.n, .string t.k, .int .i64 t.b, .int .i64 t.e]] _ (fun W => by go_simp) (calls_same HCM.out) ?_
          simp only [Act.put, List.setIfInBounds_toArray, List.set_cons_zero, List.set_cons_succ]
          refine wpq_value rfl (.bool true) (fun W _ => by first | rfl | go_simp) ?_
          simp only [Act.put, List.setIfInBounds_toArray, List.set_cons_zero, List.set_cons_succ]
          refine wpq_value rfl (.bool true) (fun W _ => by first | rfl | go_simp) ?_
          simp only [Act.put, List.setIfInBounds_toArray, List.set_cons_zero, List.set_cons_succ]
          refine wpq_not rfl ?_
          simp only [Act.put, List.setIfInBounds_toArray, List.set_cons_zero, List.set_cons_succ]
          refine wpq_not rfl ?_
          simp only [Act.put, List.setIfInBounds_toArray, List.set_cons_zero, List.set_cons_succ]
          refine wpq_not rfl ?_
          simp only [Act.put, List.setIfInBounds_toArray, List.set_cons_zero, List.set_cons_succ]
          refine wpq_not rfl ?_
          simp only [Act.put, List.setIfInBounds_toArray, List.set_cons_zero, List.set_cons_succ]
          refine wpq_not rfl ?_
          simp only [Act.put, List.setIfInBounds_toArray, List.set_cons_zero, List.set_cons_succ]
          refine wpq_not rfl ?_
          simp only [Act.put, List.setIfInBounds_toArray, List.set_cons_zero, List.set_cons_succ]
          refine wpq_value rfl (.bool true) (fun W _ => by first | rfl | go_simp) ?_
          simp only [Act.put, List.setIfInBounds_toArray, List.set_cons_zero, List.set_cons_succ]
          refine wpQuiet_nil ?_
          intro w5 hk5
          have HK5 := hid (Same.trans HK4.out hk5)
          clear hk5
          go_wp2_with fail
          go_ret
          exact ⟨⟨1, rfl, .inr (.inl ⟨by rw [← HN.out.1]; exact H8.out, fun hG => (by have h9 := hG.1 t (List.mem_of_getElem? HTT.out); rw [← HMB.out] at h9; cases h9), rfl⟩)⟩, HK5.out⟩
        | true =>
          refine wp_region_same (by kernel_rfl) (by kernel_rfl) ?_
          refine wpq_value rfl _ (fun W hW => run_load_op _ rfl (HLD.out W hW)) ?_
          simp only [Act.put, List.setIfInBounds_toArray, List.set_cons_zero, List.set_cons_succ]
          refine wpq_call rfl 35 #[.agg #[.string t.n, .string t.k, .int .i64 t.b, .int .i64 t.e]] _ (fun W => by go_simp) (calls_same HCM.out) ?_
          simp only [Act.put, List.setIfInBounds_toArray, List.set_cons_zero, List.set_cons_succ]
          refine wpq_value rfl (.bool false) (fun W _ => by first | rfl | go_simp) ?_
          simp only [Act.put, List.setIfInBounds_toArray, List.set_cons_zero, List.set_cons_succ]
          refine wpq_value rfl (.bool false) (fun W _ => by first | rfl | go_simp) ?_
          simp only [Act.put, List.setIfInBounds_toArray, List.set_cons_zero, List.set_cons_succ]
          refine wpq_value rfl (.slice (some ⟨b, o, none⟩) n c) (fun W _ => by first | rfl | go_simp) ?_
          simp only [Act.put, List.setIfInBounds_toArray, List.set_cons_zero, List.set_cons_succ]
          refine wpq_value rfl (.int .i64 (i : Nat)) (fun W _ => by first | rfl | go_simp) ?_
          simp only [Act.put, List.setIfInBounds_toArray, List.set_cons_zero, List.set_cons_succ]
          refine wpq_value rfl (.slice (some ⟨b, o, none⟩) i c) (fun W _ => by first | rfl | go_simp) ?_
          simp only [Act.put, List.setIfInBounds_toArray, List.set_cons_zero, List.set_cons_succ]
          refine wpq_value rfl (.pointer (some ⟨tb, 0, none⟩)) (fun W _ => by first | rfl | go_simp) ?_
          simp only [Act.put, List.setIfInBounds_toArray, List.set_cons_zero, List.set_cons_succ]
          refine wpq_value rfl _ (fun W hW => run_load_op _ rfl (HLN.out W hW)) ?_
          simp only [Act.put, List.setIfInBounds_toArray, List.set_cons_zero, List.set_cons_succ]
          refine wpq_call rfl 36 #[.slice (some ⟨b, o, none⟩) i c, .string t.n] _ (fun W => by go_simp) (calls_same HCN.out) ?_
          simp only [Act.put, List.setIfInBounds_toArray, List.set_cons_zero, List.set_cons_succ]
          refine wpq_value rfl (.bool nb) (fun W _ => by first | rfl | go_simp) ?_
          simp only [Act.put, List.setIfInBounds_toArray, List.set_cons_zero, List.set_cons_succ]
          refine wpQuiet_nil ?_
          intro w5 hk5
          have HK5 := hid (Same.trans HK4.out hk5)
          clear hk5
          cases nb with
          | true =>
            go_wp2_with fail
            go_ret
            exact ⟨⟨1, rfl, .inr (.inl ⟨by rw [← HN.out.1]; exact H8.out, GoodT.not_named HTT.out HNB.out.symm, rfl⟩)⟩, HK5.out⟩
          | false =>
            go_wp2_with fail
            go_roundg (gk - 1)
            case measure => have := HLT.out; omega
            case rel => exact ⟨i + 1, by go_num, HLT.out, by omega, hid ⟨GoodT.snoc HTT.out HI.out.1 HMB.out.symm HNB.out.symm, HK5.out⟩⟩
      · have hli : decide (i < n) = false := by simp; omega
        have hli2 : decide ((i : Int) < (n : Int)) = false := by simp; omega
        obtain rfl : i = n := by omega
        have ht : xs.take i = xs := List.take_of_length_le (by have := HN.out; omega)
        rw [ht] at HI
        clear ht hlt
        go_wp2_with fail
        go_ret
        exact ⟨⟨0, rfl, .inr (.inr ⟨by rw [← HN.out.1]; exact H8.out, HI.out.1, rfl⟩)⟩, HI.out.2⟩

theorem tcheck_any (w : World) (ao : Option Addr) (n c : Nat) (xs : List Tn) (I : Nat → Prop) (h : SrcC 4 tnE w I (.slice ao n c) xs) (z : Int) (hz : CkT xs z) : Calls Tryd.prog 21 #[.slice ao n c] w fun e w' => e = .returned (.int .i64 z) ∧ Same w w' :=
  (tcheck_ex w ao n c xs I h).mono fun _ _ ⟨⟨y, he, hy⟩, hk⟩ => ⟨by rw [he, hy.det hz], hk⟩

end Go.Proofs.YtjlkchjcmiljjaaDoor
