/-
  Layer 16: New.
-/
import Derived.Test.YtfhfnkhiomahfaaGreatDoorTkH
namespace Go.Proofs.YtfhfnkhiomahfaaGreatDoor
open Go.RowKit Go.Maps Go.Shelf

/-- Which tenants a list of secrets has. -/
def TnR (xs : List Tn) (T : List (Nm × ByteArray)) : Prop := ∀ p, p ∈ T ↔ ∃ t ∈ xs, p = (t.nm, t.k)

theorem TnR.look {xs : List Tn} {T : List (Nm × ByteArray)} (h : TnR xs T) (t : Tn) : (getG t.nm T).isSome = true ↔ ∃ y ∈ xs, y.n = t.n := by
  constructor
  · intro hs
    cases hg : getG t.nm T with
    | none => rw [hg] at hs; cases hs
    | some k =>
      obtain ⟨y, hy, e⟩ := (h _).1 (getG_mem hg)
      simp only [Prod.mk.injEq] at e
      exact ⟨y, hy, by have := congrArg Nm.s e.1; exact this.symm⟩
  · rintro ⟨y, hy, e⟩
    cases hg : getG t.nm T with
    | some k => rfl
    | none =>
      have h1 := getG_none hg ((h _).2 ⟨y, hy, rfl⟩)
      exact absurd (Nm.ext' e) h1

theorem TnR.step {xs : List Tn} {T : List (Nm × ByteArray)} (h : TnR xs T) (t : Tn) (hn : ∀ y ∈ xs, y.n ≠ t.n) : TnR (xs ++ [t]) (putG kN t.nm t.k T) := by
  intro p
  rw [putG_mem]
  constructor
  · rintro (rfl | ⟨hp, _⟩)
    · exact ⟨t, by simp, rfl⟩
    · obtain ⟨y, hy, e⟩ := (h p).1 hp
      exact ⟨y, by simp [hy], e⟩
  · rintro ⟨y, hy, rfl⟩
    rcases List.mem_append.1 hy with hy | hy
    · exact .inr ⟨(h _).2 ⟨y, hy, rfl⟩, fun e => hn y hy (by have := congrArg Nm.s e; exact this)⟩
    · rw [List.mem_singleton] at hy
      subst hy
      exact .inl rfl

/-- What New answers. -/
def NewT (w : World) (xs : List Tn) (e : Ending) (w' : World) : Prop :=
  (8 < xs.length ∧ e = .returned (.tuple #[.pointer none, .int .i64 2]) ∧ Same w w') ∨
  (xs.length ≤ 8 ∧ ¬ GoodT xs ∧ e = .returned (.tuple #[.pointer none, .int .i64 1]) ∧ Same w w') ∨
  (xs.length ≤ 8 ∧ GoodT xs ∧ ∃ p mt mr T, e = .returned (.tuple #[.pointer (some ⟨p, 0, none⟩), .int .i64 0]) ∧ Bk w' p mt mr T 0 [] ∧ TnR xs T ∧ Same w w' ∧ w.heap.size ≤ p ∧ w.heap.size ≤ mt ∧ w.heap.size ≤ mr)

set_option maxRecDepth 100000 in
set_option maxHeartbeats 1000000 in
theorem new_bad (w : World) (ao : Option Addr) (n c : Nat) (xs : List Tn) (h : SrcC 4 tnE w (fun k => k < w.heap.size) (.slice ao n c) xs) (z : Int) (hz : CkT xs z) (h0 : (z == 0) = false) : Calls Tryz.prog 15 #[.slice ao n c] w fun e w' => e = .returned (.tuple #[.pointer none, .int .i64 z]) ∧ Same w w' := by
  have HC := tcheck_any w ao n c xs _ h z hz
  have hz2 : (z != 0) = true := by simp [bne, h0]
  clear h hz
  go_enter Tryz.func15, Tryz.ntmps15
  go_wp2_with fail
  refine HC.mono ?_
  rintro e w2 ⟨rfl, hk2⟩
  have HK2 := hid hk2
  clear hk2 HC
  go_wp2_with fail
  go_ret2
  exact ⟨rfl, HK2.out⟩

theorem bk_new (w : World) : Bk (((w.alloc (.map #[] 0)).alloc (.map #[] 0)).alloc (.cells #[.map (some w.heap.size), .int .i64 0, .map (some (w.heap.size + 1))] 72)) (w.heap.size + 1 + 1) w.heap.size (w.heap.size + 1) [] 0 [] := by
  have hk := fun (W : World) (o : Obj) => (show Same W (W.alloc o) from (Kept.refl _ W).alloc o)
  refine ⟨?_, ((MpG.new w).kept (hk _ _) (fun f => f)).kept (hk _ _) (fun f => f), ?_, by omega, by omega, by omega⟩
  · have h9 := Blk.new ((w.alloc (.map #[] 0)).alloc (.map #[] 0)) #[.map (some w.heap.size), .int .i64 ((0 : Nat) : Int), .map (some (w.heap.size + 1))] 72
    simpa using h9
  · have h9 := (MpG.new (kt := 3) (R := noR) (kl := kI) (dv := noD) (w.alloc (.map #[] 0))).kept (hk _ (.cells #[.map (some w.heap.size), .int .i64 0, .map (some (w.heap.size + 1))] 72)) (fun f => f)
    simpa using h9

set_option maxRecDepth 100000 in
set_option maxHeartbeats 1000000 in
theorem new_good16 (w0 : World) (ao : Option Addr) (n c : Nat) (xs : List Tn) (h : SrcC 4 tnE w0 (fun k => k < w0.heap.size) (.slice ao n c) xs) (h8 : xs.length ≤ 8) (hg : GoodT xs) : Calls Tryz.prog 15 #[.slice ao n c] w0 fun e w' => ∃ p mt mr T, e = .returned (.tuple #[.pointer (some ⟨p, 0, none⟩), .int .i64 0]) ∧ Bk w' p mt mr T 0 [] ∧ TnR xs T ∧ Same w0 w' ∧ w0.heap.size ≤ p ∧ w0.heap.size ≤ mt ∧ w0.heap.size ≤ mr := by
  have HC := tcheck_any w0 ao n c xs _ h 0 (.inr (.inr ⟨h8, hg, rfl⟩))
  have HS0 := hid h
  have HN := hid h.len4
  have H8 : Hid (n ≤ 8) := hid (by have := HN.out; omega)
  have HG := hid hg
  clear h h8 hg
  have hmm := @run_makeMap Tryz.prog
  go_enter Tryz.func15, Tryz.ntmps15
  go_wp2_with fail
  refine HC.mono ?_
  rintro e w ⟨rfl, hk0⟩
  obtain ⟨mt, hmt⟩ : ∃ b, b = w.heap.size := ⟨_, rfl⟩
  obtain ⟨mr, hmr⟩ : ∃ b, b = w.heap.size + 1 := ⟨_, rfl⟩
  obtain ⟨p, hp⟩ : ∃ b, b = w.heap.size + 1 + 1 := ⟨_, rfl⟩
  obtain ⟨W3, hW3⟩ : ∃ W, W = ((w.alloc (.map #[] 0)).alloc (.map #[] 0)).alloc (.cells #[.map (some w.heap.size), .int .i64 0, .map (some (w.heap.size + 1))] 72) := ⟨_, rfl⟩
  have HK3 : Hid (Same w0 W3) := hid (by rw [hW3]; exact ((hk0.alloc _).alloc _).alloc _)
  have HB3 : Hid (Bk W3 p mt mr [] 0 []) := hid (by rw [hW3, hp, hmt, hmr]; exact bk_new w)
  have HP : Hid (w0.heap.size ≤ p ∧ w0.heap.size ≤ mt ∧ w0.heap.size ≤ mr) := hid ⟨by have := hk0.size; omega, by have := hk0.size; omega, by have := hk0.size; omega⟩
  clear hk0 HC
  go_upto_region 5 with fail
  rw [← hW3, ← hp, ← hmr, ← hmt]
  clear hW3 hp hmr hmt hmm
  go_wp2_with fail
  go_loopg [19] n (fun qq z19 wr => ∃ i : Nat, z19 = .int .i64 (i : Nat) ∧ i ≤ n ∧ n - i ≤ qq ∧ ∃ T, Hid (Bk wr p mt mr T 0 [] ∧ TnR (xs.take i) T ∧ Same w0 wr ∧ T.length ≤ i))
  case atStart => exact ⟨0, rfl, by omega, by omega, [], hid ⟨HB3.out, fun p => ⟨fun h => (by cases h), fun ⟨t, ht, _⟩ => (by cases ht)⟩, HK3.out, by simp⟩⟩
  case round =>
    obtain ⟨i, rfl, hi, hiq, T, HI⟩ := hrel
    clear HB3 HK3
    by_cases hlt : i < n
    · have hli : decide (i < n) = true := by simp; omega
      have hli2 : decide ((i : Int) < (n : Int)) = true := by simp; omega
      obtain ⟨b, o, t, rfl, _, ht, k0, k1, k2, k3⟩ := HS0.out.at4 i hlt
      have k0 := HI.out.2.2.1.cell k0 (fun f => f)
      have k1 := HI.out.2.2.1.cell k1 (fun f => f)
      have k2 := HI.out.2.2.1.cell k2 (fun f => f)
      have k3 := HI.out.2.2.1.cell k3 (fun f => f)
      have i1 : (0 : Int) ≤ (i : Int) := by omega
      have i2 : (i : Int) < (n : Int) := by omega
      have hiw : IntKind.i64.wrap ((i : Int) + 1) = ((i + 1 : Nat) : Int) := by rw [IntKind.wrap_i64]; have := H8.out; omega
      have HTK : Hid (xs.take (i + 1) = xs.take i ++ [t]) := hid (by rw [List.take_add_one, ht]; rfl)
      have HLT := hid hlt
      have HNW : Hid (∀ y ∈ xs.take i, y.n ≠ t.n) := hid (fun y hy e => GoodT.not_named ht (hasN_mem.2 ⟨y, hy, e⟩) HG.out)
      obtain ⟨W4, hW4⟩ : ∃ W, W = wr.alloc (.cells #[.string t.n, .string t.k, .int .i64 t.b, .int .i64 t.e] 51) := ⟨_, rfl⟩
      obtain ⟨tb, htb⟩ : ∃ b, b = wr.heap.size := ⟨_, rfl⟩
      have hk4 : Same wr W4 := by rw [hW4]; exact (Kept.refl _ wr).alloc _
      have HC4 : Hid (Blk W4 tb #[.string t.n, .string t.k, .int .i64 t.b, .int .i64 t.e] 51) := hid (by rw [hW4, htb]; exact Blk.new wr _ _)
      have H4 := hid (HI.out.1.same hk4)
      have HK4 := hid (Same.trans HI.out.2.2.1 hk4)
      have hkd : Same W4 W4.drew := (Kept.refl _ _).drew
      have x0 := H4.out.blk.c3.1
      obtain ⟨c0, c1, _, _⟩ := HC4.out.c4
      obtain ⟨w7, hp7, hm7, hk7⟩ := MpH.put1 (H4.out.ten.kept hkd (fun f => f)) t.nm t.k (by have := HI.out.2.2.2; have := HLT.out; have := H8.out; omega)
      rw [show t.nm.s = t.n from rfl] at hp7
      have H7 : Hid (Bk w7 p mt mr (putG kN t.nm t.k T) 0 []) := hid ⟨(H4.out.blk.kept hkd (fun f => f)).kept hk7 H4.out.ap1, hm7, (H4.out.rev.kept hkd (fun f => f)).kept hk7 (fun e => H4.out.ap3 e.symm), H4.out.ap1, H4.out.ap2, H4.out.ap3⟩
      have HK7 : Hid (Same w0 w7) := hid (Same.then (show Same w0 W4.drew from HK4.out.drew) hk7 (fun k hk e => by have := HP.out; omega))
      have HR7 : Hid (TnR (xs.take (i + 1)) (putG kN t.nm t.k T) ∧ (putG kN t.nm t.k T).length ≤ i + 1) := hid (by
        rw [HTK.out]
        exact ⟨HI.out.2.1.step t HNW.out, by have h8 := (putG_len (kl := kN) t.nm t.k T).2; have h9 := HI.out.2.2.2; omega⟩)
      clear hkd hm7 hk7 hk4 ht hlt
      go_upto_region 8 with fail
      rw [← hW4, ← htb]
      clear hW4 htb k0 k1 k2 k3
      go_region
      go_wp2_with fail
      go_roundg (gk - 1)
      case measure => have := HLT.out; omega
      case rel => exact ⟨i + 1, by go_num, HLT.out, by omega, putG kN t.nm t.k T, hid ⟨H7.out, HR7.out.1, HK7.out, HR7.out.2⟩⟩
    · have hli : decide (i < n) = false := by simp; omega
      have hli2 : decide ((i : Int) < (n : Int)) = false := by simp; omega
      obtain rfl : i = n := by omega
      have ht : xs.take i = xs := List.take_of_length_le (by have := HN.out; omega)
      rw [ht] at HI
      clear ht hlt
      go_wp2_with fail
      go_ret2
      exact ⟨p, mt, mr, T, rfl, HI.out.1, HI.out.2.1, HI.out.2.2.1, HP.out.1, HP.out.2.1, HP.out.2.2⟩

theorem new_any (w : World) (ao : Option Addr) (n c : Nat) (xs : List Tn) (h : SrcC 4 tnE w (fun k => k < w.heap.size) (.slice ao n c) xs) : Calls Tryz.prog 15 #[.slice ao n c] w fun e w' => NewT w xs e w' := by
  obtain ⟨z, hz⟩ := CkT.ex xs
  rcases hz with ⟨h1, rfl⟩ | ⟨h1, h2, rfl⟩ | ⟨h1, h2, rfl⟩
  · exact (new_bad w ao n c xs h 2 (.inl ⟨h1, rfl⟩) rfl).mono fun e w' ⟨he, hk⟩ => .inl ⟨h1, he, hk⟩
  · exact (new_bad w ao n c xs h 1 (.inr (.inl ⟨h1, h2, rfl⟩)) rfl).mono fun e w' ⟨he, hk⟩ => .inr (.inl ⟨h1, h2, he, hk⟩)
  · exact (new_good16 w ao n c xs h h1 h2).mono fun e w' h9 => .inr (.inr ⟨h1, h2, h9⟩)

end Go.Proofs.YtfhfnkhiomahfaaGreatDoor
