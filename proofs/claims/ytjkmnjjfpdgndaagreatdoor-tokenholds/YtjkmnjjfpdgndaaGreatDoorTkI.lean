/-
  Layer 16: New.
-/
import Derived.Test.YtjkmnjjfpdgndaaGreatDoorTkH
namespace Go.Proofs.YtjkmnjjfpdgndaaGreatDoor
open Go.RowKit Go.Maps Go.Shelf

/-- A tenant, as it came in. -/
structure Tn where
  n : ByteArray
  k : ByteArray
  b : Int
  e : Int
  ok : n.size ≤ maxLen

instance : Inhabited Tn := ⟨⟨⟨#[]⟩, ⟨#[]⟩, 0, 0, Nat.zero_le _⟩⟩

def Tn.nm (t : Tn) : Nm := ⟨t.n, t.ok⟩
def tnE (t : Tn) : List Value := [.string t.n, .string t.k, .int .i64 t.b, .int .i64 t.e]
theorem tnE_ok : EncOk tnE 4 := ⟨fun _ => rfl, fun x u hu => by simp [tnE] at hu; rcases hu with rfl | rfl | rfl | rfl <;> rfl, by decide⟩

def shrB (z : Int) : Bool := decide (0 ≤ z ∧ z ≤ 1000000000)
def tnB (t : Tn) : Bool := sho t.n && (decide (t.k.size ≤ 64) && (shrB t.b && shrB t.e))

theorem isShare_any (w : World) (n : Int) (b : Bool) (hb : shrB n = b) : Calls Tryz.prog 55 #[.int .i64 n] w fun e w' => e = .returned (.bool b) ∧ Same w w' := by
  unfold shrB at hb
  by_cases h1 : 0 ≤ n
  · by_cases h2 : n ≤ 1000000000
    · obtain rfl : true = b := by rw [← hb]; simp [h1, h2]
      clear hb
      go_enter Tryz.func55, Tryz.ntmps55
      go_wp2_with fail
      go_ret
      exact ⟨rfl, Kept.refl _ _⟩
    · obtain rfl : false = b := by rw [← hb]; simp [h2]
      have h3 : decide (n ≤ 1000000000) = false := decide_eq_false h2
      clear hb
      go_enter Tryz.func55, Tryz.ntmps55
      go_wp2_with fail
      go_ret
      exact ⟨rfl, Kept.refl _ _⟩
  · obtain rfl : false = b := by rw [← hb]; simp [h1]
    have h3 : decide (0 ≤ n) = false := decide_eq_false h1
    clear hb
    go_enter Tryz.func55, Tryz.ntmps55
    go_wp2_with fail
    go_ret
    exact ⟨rfl, Kept.refl _ _⟩

theorem Blk.c4 {w : World} {g : Nat} {a b c d : Value} {t : TypeId} (hb : Blk w g #[a, b, c, d] t) : w.cell? ⟨g, 0, none⟩ = some a ∧ w.cell? ⟨g, 1, none⟩ = some b ∧ w.cell? ⟨g, 2, none⟩ = some c ∧ w.cell? ⟨g, 3, none⟩ = some d :=
  ⟨hb.cell 0, hb.cell 1, hb.cell 2, hb.cell 3⟩

set_option maxRecDepth 100000 in
set_option maxHeartbeats 1000000 in
theorem tenMay_any (w : World) (t : Tn) (b : Bool) (hb : tnB t = b) : Calls Tryz.prog 37 #[.agg #[.string t.n, .string t.k, .int .i64 t.b, .int .i64 t.e]] w fun e w' => e = .returned (.bool b) ∧ Same w w' := by
  obtain ⟨W1, hW1⟩ : ∃ W, W = w.alloc (.cells #[.string t.n, .string t.k, .int .i64 t.b, .int .i64 t.e] 51) := ⟨_, rfl⟩
  obtain ⟨xb, hxb⟩ : ∃ b, b = w.heap.size := ⟨_, rfl⟩
  have HK1 : Hid (Same w W1) := hid (by rw [hW1]; exact (Kept.refl _ w).alloc _)
  have HB : Hid (Blk W1 xb #[.string t.n, .string t.k, .int .i64 t.b, .int .i64 t.e] 51) := hid (by rw [hW1, hxb]; exact Blk.new w _ _)
  obtain ⟨x0, _, _, _⟩ := HB.out.c4
  obtain ⟨s, hs⟩ : ∃ s, s = sho t.n := ⟨_, rfl⟩
  have HS := short_is W1 t.n s hs.symm
  obtain ⟨b1, hb1⟩ : ∃ s, s = shrB t.b := ⟨_, rfl⟩
  obtain ⟨b2, hb2⟩ : ∃ s, s = shrB t.e := ⟨_, rfl⟩
  have HI1 : Hid (∀ W, Calls Tryz.prog 55 #[.int .i64 t.b] W fun e w' => e = .returned (.bool b1) ∧ Same W w') := hid (fun W => isShare_any W t.b b1 hb1.symm)
  have HI2 : Hid (∀ W, Calls Tryz.prog 55 #[.int .i64 t.e] W fun e w' => e = .returned (.bool b2) ∧ Same W w') := hid (fun W => isShare_any W t.e b2 hb2.symm)
  unfold tnB at hb
  rw [← hs, ← hb1, ← hb2] at hb
  have HBB := hid hb
  clear hs hb1 hb2 hb
  go_enter Tryz.func37, Tryz.ntmps37
  go_upto_region 1 with fail
  rw [← hW1, ← hxb]
  clear hW1 hxb
  go_wp2_with fail
  refine HS.mono ?_
  rintro e w2 ⟨rfl, hk2⟩
  have HB2 := hid (HB.out.kept hk2 (fun f => f))
  have HK2 := hid (Same.trans HK1.out hk2)
  obtain ⟨x0, x1, x2, x3⟩ := HB2.out.c4
  clear hk2 HS HB
  cases s with
  | false =>
    go_wp2_with fail
    go_ret
    exact ⟨by rw [← HBB.out]; rfl, HK2.out⟩
  | true =>
    by_cases hk : t.k.size ≤ 64
    · have hki : (t.k.size : Int) ≤ 64 := by omega
      have HBC : Hid ((b1 && b2) = b) := hid (by have h9 := HBB.out; rw [decide_eq_true hk] at h9; simpa using h9)
      clear hk
      go_wp2_with fail
      refine (HI1.out _).mono ?_
      rintro e w3 ⟨rfl, hk3⟩
      have HB3 := hid (HB2.out.kept hk3 (fun f => f))
      have HK3 := hid (Same.trans HK2.out hk3)
      clear hk3 x0 x1 x2 x3
      have x3 := HB3.out.c4.2.2.2
      cases b1 with
      | false =>
        go_wp2_with fail
        go_ret
        exact ⟨by rw [← HBC.out]; rfl, HK3.out⟩
      | true =>
        go_wp2_with fail
        refine (HI2.out _).mono ?_
        rintro e w4 ⟨rfl, hk4⟩
        have HK4 := hid (Same.trans HK3.out hk4)
        clear hk4
        cases b2 with
        | false =>
          go_wp2_with fail
          go_ret
          exact ⟨by rw [← HBC.out]; rfl, HK4.out⟩
        | true =>
          go_wp2_with fail
          go_ret
          exact ⟨by rw [← HBC.out]; rfl, HK4.out⟩
    · have hki : decide ((t.k.size : Int) ≤ 64) = false := by simp; omega
      have HBC : Hid (false = b) := hid (by have h9 := HBB.out; rw [decide_eq_false hk] at h9; simpa using h9)
      clear hk
      go_wp2_with fail
      go_ret
      exact ⟨by rw [← HBC.out]; rfl, HK2.out⟩

/-- Which tenants a list of secrets has. -/
def TnR (xs : List Tn) (T : List (Nm × ByteArray)) : Prop := ∀ p, p ∈ T ↔ ∃ t ∈ xs, p = (t.nm, t.k)

/-- May tenants be? -/
def GoodT (xs : List Tn) : Prop := (∀ t ∈ xs, tnB t = true) ∧ xs.Pairwise (fun a b => a.n ≠ b.n)

theorem TnR.look {xs : List Tn} {T : List (Nm × ByteArray)} (h : TnR xs T) (t : Tn) : (getG t.nm T).isSome = true ↔ ∃ y ∈ xs, y.n = t.n := by
  constructor
  · intro hs
    cases hg : getG t.nm T with
    | none => rw [hg] at hs; cases hs
    | some k =>
      obtain ⟨y, hy, e⟩ := (h _).1 (getG_mem hg)
      simp only [Prod.mk.injEq] at e
      exact ⟨y, hy, by have := congrArg Nm.s e.1; exact this.symm⟩
  · rintro ⟨y, hy, e⟩
    cases hg : getG t.nm T with
    | some k => rfl
    | none =>
      have h1 := getG_none hg ((h _).2 ⟨y, hy, rfl⟩)
      exact absurd (Nm.ext' e) h1

theorem TnR.step {xs : List Tn} {T : List (Nm × ByteArray)} (h : TnR xs T) (t : Tn) (hn : ∀ y ∈ xs, y.n ≠ t.n) : TnR (xs ++ [t]) (putG kN t.nm t.k T) := by
  intro p
  rw [putG_mem]
  constructor
  · rintro (rfl | ⟨hp, _⟩)
    · exact ⟨t, by simp, rfl⟩
    · obtain ⟨y, hy, e⟩ := (h p).1 hp
      exact ⟨y, by simp [hy], e⟩
  · rintro ⟨y, hy, rfl⟩
    rcases List.mem_append.1 hy with hy | hy
    · exact .inr ⟨(h _).2 ⟨y, hy, rfl⟩, fun e => hn y hy (by have := congrArg Nm.s e; exact this)⟩
    · rw [List.mem_singleton] at hy
      subst hy
      exact .inl rfl

/-- What New answers. -/
def NewT (w : World) (xs : List Tn) (e : Ending) (w' : World) : Prop :=
  (8 < xs.length ∧ e = .returned (.tuple #[.pointer none, .int .i64 2]) ∧ Same w w') ∨
  (xs.length ≤ 8 ∧ ¬ GoodT xs ∧ e = .returned (.tuple #[.pointer none, .int .i64 1]) ∧ Same w w') ∨
  (xs.length ≤ 8 ∧ GoodT xs ∧ ∃ p mt mr T, e = .returned (.tuple #[.pointer (some ⟨p, 0, none⟩), .int .i64 0]) ∧ Bk w' p mt mr T 0 [] ∧ TnR xs T ∧ Same w w' ∧ w.heap.size ≤ p ∧ w.heap.size ≤ mt ∧ w.heap.size ≤ mr)

theorem SrcC.at4 {w : World} {I : Nat → Prop} {ao : Option Addr} {n c : Nat} {xs : List Tn} (h : SrcC 4 tnE w I (.slice ao n c) xs) (j : Nat) (hj : j < n) : ∃ b o t, ao = some ⟨b, o, none⟩ ∧ I b ∧ xs[j]? = some t ∧ w.cell? ⟨b, o + j * 4, none⟩ = some (.string t.n) ∧ w.cell? ⟨b, o + j * 4 + 1, none⟩ = some (.string t.k) ∧ w.cell? ⟨b, o + j * 4 + 2, none⟩ = some (.int .i64 t.b) ∧ w.cell? ⟨b, o + j * 4 + 3, none⟩ = some (.int .i64 t.e) := by
  obtain ⟨a', c', e, hl, hc⟩ := h
  injection e with e1 e2 e3
  have hjx : j < xs.length := by omega
  obtain ⟨b, o, h1, h2, h3⟩ := hc (fun e => by rw [e] at hjx; simp at hjx)
  refine ⟨b, o, xs[j], e1.trans h1, h2, List.getElem?_eq_getElem hjx, ?_, ?_, ?_, ?_⟩
  · exact h3 j hjx 0 (by omega)
  · exact h3 j hjx 1 (by omega)
  · exact h3 j hjx 2 (by omega)
  · exact h3 j hjx 3 (by omega)

theorem SrcC.len4 {w : World} {I : Nat → Prop} {ao : Option Addr} {n c : Nat} {xs : List Tn} (h : SrcC 4 tnE w I (.slice ao n c) xs) : n = xs.length ∧ n ≤ c := by
  obtain ⟨a', c', e, hl, hc⟩ := h
  injection e with e1 e2 e3
  omega

set_option maxRecDepth 100000 in
set_option maxHeartbeats 1000000 in
theorem new_any (w : World) (ao : Option Addr) (n c : Nat) (xs : List Tn) (h : SrcC 4 tnE w (fun k => k < w.heap.size) (.slice ao n c) xs) : Calls Tryz.prog 15 #[.slice ao n c] w fun e w' => NewT w xs e w' := by
  have HS := hid h
  have HN := hid h.len4
  clear h
  by_cases h8 : 8 < n
  · have h8i : (8 : Int) < (n : Int) := by omega
    have H8 := hid h8
    clear h8
    go_enter Tryz.func15, Tryz.ntmps15
    go_wp2_with fail
    go_ret2
    exact .inl ⟨by rw [← HN.out.1]; exact H8.out, rfl, Kept.refl _ _⟩
  · have h8i : decide ((8 : Int) < (n : Int)) = false := by simp; omega
    have H8 : Hid (n ≤ 8) := hid (by omega)
    obtain ⟨W1, hW1⟩ : ∃ W, W = w.alloc (.map #[] 0) := ⟨_, rfl⟩
    obtain ⟨W2, hW2⟩ : ∃ W, W = W1.alloc (.map #[] 0) := ⟨_, rfl⟩
    obtain ⟨mt, hmt⟩ : ∃ b, b = w.heap.size := ⟨_, rfl⟩
    obtain ⟨mr, hmr⟩ : ∃ b, b = W1.heap.size := ⟨_, rfl⟩
    obtain ⟨W3, hW3⟩ : ∃ W, W = W2.alloc (.cells #[.map (some mt), .int .i64 0, .map (some mr)] 71) := ⟨_, rfl⟩
    obtain ⟨p, hp⟩ : ∃ b, b = W2.heap.size := ⟨_, rfl⟩
    have hs1 : W1.heap.size = w.heap.size + 1 := by rw [hW1]; simp
    have hs2 : W2.heap.size = w.heap.size + 2 := by rw [hW2]; simp [hs1]
    have HK3 : Hid (Same w W3) := hid (by rw [hW3, hW2, hW1]; exact (((Kept.refl _ w).alloc _).alloc _).alloc _)
    have hk12 : Same W1 W2 := by rw [hW2]; exact (Kept.refl _ _).alloc _
    have hk23 : Same W2 W3 := by rw [hW3]; exact (Kept.refl _ _).alloc _
    have HB3 : Hid (Bk W3 p mt mr [] 0 []) := hid ⟨by rw [hW3, hp]; exact Blk.new W2 _ _, (by rw [hmt, hW1] at *; exact ((MpG.new w).kept hk12 (fun f => f)).kept hk23 (fun f => f)), (by rw [hmr, hW2] at *; exact (MpG.new W1).kept hk23 (fun f => f)), by omega, by omega, by omega⟩
    have HP : Hid (w.heap.size ≤ p ∧ w.heap.size ≤ mt ∧ w.heap.size ≤ mr) := hid ⟨by omega, by omega, by omega⟩
    have hmm := @run_makeMap Tryz.prog
    have hmr' : mr = w.heap.size + 1 := by rw [hmr, hs1]
    have hp' : p = w.heap.size + 1 + 1 := by rw [hp, hs2]
    have hW3' : W3 = ((w.alloc (.map #[] 0)).alloc (.map #[] 0)).alloc (.cells #[.map (some w.heap.size), .int .i64 0, .map (some (w.heap.size + 1))] 71) := by rw [hW3, hW2, hW1, hmr', hmt]
    clear h8 hs1 hs2 hk12 hk23 hW3 hmr hp hW1 hW2
    go_enter Tryz.func15, Tryz.ntmps15
    go_upto_region 4 with fail
    rw [← hW3', ← hp', ← hmr', ← hmt]
    clear hW3' hp' hmr' hmt hmm
    go_wp2_with fail
    go_loopg [18] n (fun qq z18 wr => ∃ i : Nat, z18 = .int .i64 (i : Nat) ∧ i ≤ n ∧ n - i ≤ qq ∧ ∃ T, Hid (Bk wr p mt mr T 0 [] ∧ TnR (xs.take i) T ∧ Same w wr ∧ GoodT (xs.take i) ∧ T.length ≤ i))
    case atStart => exact ⟨0, rfl, by omega, by omega, [], hid ⟨HB3.out, fun p => ⟨fun h => (by cases h), fun ⟨t, ht, _⟩ => (by cases ht)⟩, HK3.out, ⟨fun t ht => (by cases ht), List.Pairwise.nil⟩, by simp⟩⟩
    case round =>
      obtain ⟨i, rfl, hi, hiq, T, HI⟩ := hrel
      clear HB3 HK3
      by_cases hlt : i < n
      · have hli : decide (i < n) = true := by simp; omega
        have hli2 : decide ((i : Int) < (n : Int)) = true := by simp; omega
        obtain ⟨b, o, t, rfl, _, ht, k0, k1, k2, k3⟩ := HS.out.at4 i hlt
        have k0 := HI.out.2.2.1.cell k0 (fun f => f)
        have k1 := HI.out.2.2.1.cell k1 (fun f => f)
        have k2 := HI.out.2.2.1.cell k2 (fun f => f)
        have k3 := HI.out.2.2.1.cell k3 (fun f => f)
        have i1 : (0 : Int) ≤ (i : Int) := by omega
        have i2 : (i : Int) < (n : Int) := by omega
        have hiw : IntKind.i64.wrap ((i : Int) + 1) = ((i + 1 : Nat) : Int) := by rw [IntKind.wrap_i64]; have := H8.out; omega
        have HTK : Hid (xs.take (i + 1) = xs.take i ++ [t]) := hid (by rw [List.take_add_one, ht]; rfl)
        have HTM : Hid (t ∈ xs ∧ i < n) := hid ⟨List.mem_of_getElem? ht, hlt⟩
        obtain ⟨W4, hW4⟩ : ∃ W, W = wr.alloc (.cells #[.string t.n, .string t.k, .int .i64 t.b, .int .i64 t.e] 51) := ⟨_, rfl⟩
        obtain ⟨tb, htb⟩ : ∃ b, b = wr.heap.size := ⟨_, rfl⟩
        have hk4 : Same wr W4 := by rw [hW4]; exact (Kept.refl _ wr).alloc _
        have HC4 : Hid (Blk W4 tb #[.string t.n, .string t.k, .int .i64 t.b, .int .i64 t.e] 51) := hid (by rw [hW4, htb]; exact Blk.new wr _ _)
        have H4 := hid (HI.out.1.same hk4)
        have HK4 := hid (Same.trans HI.out.2.2.1 hk4)
        have hkA : Same W4 (W4.alloc (.cells #[.string ⟨#[]⟩] 73)).drew := ((Kept.refl _ W4).alloc _).drew
        have hlk := MpH.look1 H4.out.ten t.nm
        have hlkd := MpH.look1 (H4.out.ten.kept (show Same W4 W4.drew from (Kept.refl _ _).drew) (fun f => f)) t.nm
        have hlkA := MpH.look1 (H4.out.ten.kept hkA (fun f => f)) t.nm
        rw [show t.nm.s = t.n from rfl] at hlk hlkd hlkA
        have x0 := H4.out.blk.c3.1
        have c0 := HC4.out.c4.1
        have xA0 := (H4.out.blk.kept hkA (fun f => f)).c3.1
        have cA0 := (HC4.out.kept hkA (fun f => f)).c4.1
        have HLK := hid (HI.out.2.1.look t)
        cases hg : getG t.nm T with
        | some k =>
          rw [hg] at hlk hlkd hlkA
          simp only [Option.elim, Option.isSome, hoV] at hlk hlkd hlkA
          have HNG : Hid (¬ GoodT xs) := hid (fun hG => by
            obtain ⟨y, hy, e⟩ := HLK.out.1 (by rw [hg]; rfl)
            have h2 : xs = xs.take i ++ (t :: xs.drop (i + 1)) := by
              have h3 := List.take_append_drop (i + 1) xs
              rw [HTK.out, List.append_assoc] at h3
              exact h3.symm
            have h4 := hG.2
            rw [h2, List.pairwise_append] at h4
            exact h4.2.2 y hy t (by simp) e)
          have HKR : Hid (Same w (W4.alloc (.cells #[.string k] 73)).drew) := hid ((HK4.out.alloc _).drew)
          clear hkA hg ht hlt hk4
          go_upto_region 7 with fail
          rw [← hW4, ← htb]
          clear hW4 htb k0 k1 k2 k3
          go_region
          all_goals
            go_wp2_with fail
            go_ret2
            exact .inr (.inl ⟨by rw [← HN.out.1]; exact H8.out, HNG.out, rfl, HKR.out⟩)
        | none =>
          rw [hg] at hlk hlkd hlkA
          simp only [Option.elim, Option.isSome, hoV] at hlk hlkd hlkA
          have HNW : Hid (∀ y ∈ xs.take i, y.n ≠ t.n) := hid (fun y hy e => by have h9 := HLK.out.2 ⟨y, hy, e⟩; rw [hg] at h9; cases h9)
          obtain ⟨W5, hW5⟩ : ∃ W, W = (W4.alloc (.cells #[.string ⟨#[]⟩] 73)).drew := ⟨_, rfl⟩
          have hk5 : Same W4 W5 := by rw [hW5]; exact hkA
          have HC5 := hid (HC4.out.kept hk5 (fun f => f))
          have H5 := hid (H4.out.same hk5)
          have HK5 := hid (Same.trans HK4.out hk5)
          obtain ⟨tb2, htb2⟩ : ∃ b, b = tnB t := ⟨_, rfl⟩
          have HTM2 := tenMay_any W5 t tb2 htb2.symm
          have HT2 := hid htb2
          clear hkA hg ht hlt hk4 hk5 htb2
          go_upto_region 7 with fail
          rw [← hW4, ← htb]
          clear hW4 htb k0 k1 k2 k3
          go_region
          all_goals
            rw [← hW5]
            obtain ⟨c0', c1', c2', c3'⟩ := HC5.out.c4
            clear hW5 hlk hlkd hlkA x0 c0 xA0 cA0
            go_wp2_with fail
            refine HTM2.mono ?_
            rintro e w6 ⟨rfl, hk6⟩
            have HC6 := hid (HC5.out.kept hk6 (fun f => f))
            have H6 := hid (H5.out.same hk6)
            have HK6 := hid (Same.trans HK5.out hk6)
            clear hk6 HTM2 c0' c1' c2' c3'
            cases tb2 with
            | false =>
              go_wp2_with fail
              go_ret2
              exact .inr (.inl ⟨by rw [← HN.out.1]; exact H8.out, fun hG => (by have h9 := hG.1 t HTM.out.1; rw [← HT2.out] at h9; cases h9), rfl, HK6.out⟩)
            | true =>
              have hkd : Same w6 w6.drew := (Kept.refl _ _).drew
              have x0 := H6.out.blk.c3.1
              obtain ⟨c0, c1, _, _⟩ := HC6.out.c4
              obtain ⟨w7, hp7, hm7, hk7⟩ := MpH.put1 (H6.out.ten.kept hkd (fun f => f)) t.nm t.k (by have := HI.out.2.2.2.2; have := HTM.out.2; have := H8.out; omega)
              rw [show t.nm.s = t.n from rfl] at hp7
              have H7 : Hid (Bk w7 p mt mr (putG kN t.nm t.k T) 0 []) := hid ⟨(H6.out.blk.kept hkd (fun f => f)).kept hk7 H6.out.ap1, hm7, (H6.out.rev.kept hkd (fun f => f)).kept hk7 (fun e => H6.out.ap3 e.symm), H6.out.ap1, H6.out.ap2, H6.out.ap3⟩
              have HK7 : Hid (Same w w7) := hid (Same.then (show Same w w6.drew from HK6.out.drew) hk7 (fun k hk e => by have := HP.out; omega))
              have HR7 : Hid (TnR (xs.take (i + 1)) (putG kN t.nm t.k T) ∧ GoodT (xs.take (i + 1)) ∧ (putG kN t.nm t.k T).length ≤ i + 1) := hid (by
                rw [HTK.out]
                refine ⟨HI.out.2.1.step t HNW.out, ⟨fun y hy => ?_, ?_⟩, by have h8 := (putG_len (kl := kN) t.nm t.k T).2; have h9 := HI.out.2.2.2.2; omega⟩
                · rcases List.mem_append.1 hy with hy | hy
                  · exact HI.out.2.2.2.1.1 y hy
                  · rw [List.mem_singleton] at hy
                    rw [hy, ← HT2.out]
                · rw [List.pairwise_append]
                  exact ⟨HI.out.2.2.2.1.2, List.pairwise_singleton _ _, fun a ha b hb => by rw [List.mem_singleton] at hb; rw [hb]; exact HNW.out a ha⟩)
              clear hkd hm7 hk7
              go_wp2_with fail
              go_region
              go_wp2_with fail
              go_roundg (gk - 1)
              case measure => have := HTM.out.2; omega
              case rel => exact ⟨i + 1, by go_num, by have := HTM.out.2; omega, by omega, putG kN t.nm t.k T, hid ⟨H7.out, HR7.out.1, HK7.out, HR7.out.2.1, HR7.out.2.2⟩⟩
      · have hli : decide (i < n) = false := by simp; omega
        have hli2 : decide ((i : Int) < (n : Int)) = false := by simp; omega
        obtain rfl : i = n := by omega
        have ht : xs.take i = xs := List.take_of_length_le (by have := HN.out; omega)
        rw [ht] at HI
        clear ht hlt
        go_wp2_with fail
        go_ret2
        exact .inr (.inr ⟨by rw [← HN.out.1]; exact H8.out, HI.out.2.2.2.1, p, mt, mr, T, rfl, HI.out.1, HI.out.2.1, HI.out.2.2.1, HP.out.1, HP.out.2.1, HP.out.2.2⟩)

end Go.Proofs.YtjkmnjjfpdgndaaGreatDoor
