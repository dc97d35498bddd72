/-
  The law's 'awake': the document's examples.
-/
import Derived.Test.YtddjbofdepamhaaHLim
import Derived.Test.YtddjbofdepamhaaHNew
namespace Go.Proofs.Ytddjbofdepamhaa
open Go.RowKit

/-- A literal row of ints. -/
theorem src_ints (w : World) (zs : List Int) (n : Nat) (hn : zs.length = n) : SrcE intV (w.alloc (.cells (zs.map intV).toArray 3)) (fun k => k = w.heap.size) (.slice (some ⟨w.heap.size, 0, none⟩) n n) zs := by
  subst hn
  refine ⟨_, _, rfl, Nat.le_refl _, fun _ => ⟨_, _, rfl, rfl, fun j hj => ?_⟩⟩
  simp [hj]

/-- A literal row of bytes. -/
theorem src_bytes (w : World) (cs : List Nat) (n : Nat) (hn : cs.length = n) : Src (w.alloc (.cells (cs.map byteV).toArray 5)) (fun k => k = w.heap.size) (.slice (some ⟨w.heap.size, 0, none⟩) n n) cs := by
  subst hn
  refine ⟨_, _, rfl, fun _ => ⟨_, _, rfl, rfl, fun j hj => ?_⟩⟩
  simp [byteV, hj]

theorem rest_lt (bs : List Nat) (hb : ∀ b ∈ bs, b < 256) (c : Nat) (hc : c ≤ 8 * bs.length) : n256 bs / 2 ^ c < 2 ^ (8 * bs.length - c) := by
  have h := n256_lt bs hb
  rw [pow8] at h
  refine (Nat.div_lt_iff_lt_mul (Nat.two_pow_pos c)).2 ?_
  rw [← Nat.pow_add, show 8 * bs.length - c + c = 8 * bs.length by omega]
  exact h

/-- Next, where a code comes. -/
theorem next_is (w : World) (d : Nat) (vc vs : Value) (ns : List Nat) (p c : Nat) (s : Value) (bs : List Nat) (hd : Dec w d vc vs ns) (hm : mxL ns ≤ 15) (hns : ns.length ≤ 288) (hs : St w p s bs c) (hc : c ≤ 8 * bs.length) (hlen : bs.length ≤ 100000000) (hdis : ∀ k, DF d vc vs k → ¬ Fp p s k)
    (y : Nat) (hy : y ∈ ris ns) (hl : key ns y ≤ 8 * bs.length - c) (hf : rv (key ns y) (n256 bs / 2 ^ c) = codeOf ns y) :
    Calls Try.prog 23 #[.pointer (some ⟨d, 0, none⟩), .pointer (some ⟨p, 0, none⟩)] w fun e w' => e = .returned (.tuple #[.int .i64 (y : Nat), .int .i64 0]) ∧ St w' p s bs (c + key ns y) ∧ Kept (· = p) w w' := by
  refine (next_any w d vc vs ns p c s bs hd hm hns hs hc hlen hdis).mono ?_
  rintro e w' ⟨⟨sym, long, er, rfl, hans, hst⟩, hk⟩
  obtain ⟨rfl, rfl, rfl⟩ := Ans.unique (fun x => Nat.le_trans (key_le_mx ns x) hm) (rest_lt bs hs.byte c hc) hans hm hy hl hf
  exact ⟨rfl, hst, hk⟩

theorem ex_lim : limL [5, 1, 1, 1] 2 = [2, 2, 2, 2] := by decide +kernel
theorem ex_codes : codesL [2, 1, 3, 3] = [1, 0, 3, 7] := by decide +kernel

set_option maxRecDepth 100000 in
set_option maxHeartbeats 4000000 in
theorem awake_any (w : World) : Calls Try.prog 14 #[] w fun e w' => e = .returned (.bool true) ∧ Same w w' := by
  have hg : Good [2, 1, 3, 3] [2, 1, 3, 3] := good_of (by decide)
  have HC1 : Calls Try.prog 11 #[.slice (some ⟨w.heap.size, 0, none⟩) 4 4] (w.alloc (.cells #[.int .i64 2, .int .i64 1, .int .i64 3, .int .i64 3] 3)) fun e w' => (∃ g n cap, e = .returned (.tuple #[.slice (some ⟨g, 0, none⟩) n cap, .int .i64 0]) ∧ WRow (w.alloc (.cells #[.int .i64 2, .int .i64 1, .int .i64 3, .int .i64 3] 3)).heap.size w' (.slice (some ⟨g, 0, none⟩) n cap) (codesL [2, 1, 3, 3])) ∧ Same (w.alloc (.cells #[.int .i64 2, .int .i64 1, .int .i64 3, .int .i64 3] 3)) w' :=
    codes_good _ _ _ [2, 1, 3, 3] [2, 1, 3, 3] (src_ints w [2, 1, 3, 3] 4 rfl) hg (by decide)
  have HG : Hid (Good [2, 1, 3, 3] [2, 1, 3, 3]) := hg
  clear hg
  go_enter Try.func14, Try.ntmps14
  go_wp2_with fail
  refine HC1.mono ?_
  rintro e w1 ⟨⟨g1, n1, cap1, rfl, hr1⟩, hk1⟩
  rw [ex_codes] at hr1
  have hn1 := hr1.len
  simp at hn1
  subst hn1
  have HR1 : Hid (WRow 0 w1 (.slice (some ⟨g1, 0, none⟩) 4 cap1) [1, 0, 3, 7]) := hid (RowE.base hr1 (Nat.zero_le _))
  have HK1 : Hid (Same w w1) := hid (Same.trans ((Kept.refl _ w).alloc _) hk1)
  clear hr1 hk1 HC1
  have HC2 : Calls Try.prog 19 #[.slice (some ⟨w1.heap.size, 0, none⟩) 4 4] (w1.alloc (.cells #[.int .i64 2, .int .i64 1, .int .i64 3, .int .i64 3] 3)) fun e w' => (∃ d vc vs, e = .returned (.tuple #[.pointer (some ⟨d, 0, none⟩), .int .i64 0]) ∧ Dec w' d vc vs [2, 1, 3, 3] ∧ ∀ k, DF d vc vs k → (w1.alloc (.cells #[.int .i64 2, .int .i64 1, .int .i64 3, .int .i64 3] 3)).heap.size ≤ k) ∧ Same (w1.alloc (.cells #[.int .i64 2, .int .i64 1, .int .i64 3, .int .i64 3] 3)) w' :=
    new_good _ _ _ [2, 1, 3, 3] [2, 1, 3, 3] (src_ints w1 [2, 1, 3, 3] 4 rfl) HG.out (by decide)
  go_wp2_with fail
  refine HC2.mono ?_
  rintro e w2 ⟨⟨d, vc, vs, rfl, hd2, _⟩, hk2⟩
  have HK2 : Hid (Same w1 w2) := hid (Same.trans ((Kept.refl _ w1).alloc _) hk2)
  have HD2 : Hid (Dec w2 d vc vs [2, 1, 3, 3]) := hd2
  clear hd2 hk2 HC2
  have HC3 : Calls Try.prog 15 #[.slice (some ⟨w2.heap.size, 0, none⟩) 4 4, .int .i64 2] (w2.alloc (.cells #[.int .i64 5, .int .i64 1, .int .i64 1, .int .i64 1] 3)) fun e w' => (∃ g n cap, e = .returned (.tuple #[.slice (some ⟨g, 0, none⟩) n cap, .int .i64 0]) ∧ NRow 0 w' (.slice (some ⟨g, 0, none⟩) n cap) (limL [5, 1, 1, 1] 2) ∧ (w2.alloc (.cells #[.int .i64 5, .int .i64 1, .int .i64 1, .int .i64 1] 3)).heap.size ≤ g) ∧ Same (w2.alloc (.cells #[.int .i64 5, .int .i64 1, .int .i64 1, .int .i64 1] 3)) w' :=
    limit_good _ _ _ [5, 1, 1, 1] [5, 1, 1, 1] 2 (src_ints w2 [5, 1, 1, 1] 4 rfl) (by decide) (by decide) (by decide) (by decide) (by decide)
  go_wp2_with fail
  refine HC3.mono ?_
  rintro e w3 ⟨⟨g3, n3, cap3, rfl, hr3, _⟩, hk3⟩
  rw [ex_lim] at hr3
  have hn3 := hr3.len
  simp at hn3
  subst hn3
  have HR3 : Hid (NRow 0 w3 (.slice (some ⟨g3, 0, none⟩) 4 cap3) [2, 2, 2, 2]) := hr3
  have HK3 : Hid (Same w2 w3) := hid (Same.trans ((Kept.refl _ w2).alloc _) hk3)
  clear hr3 hk3 HC3
  have HC4 : Calls Try.prog 22 #[.slice (some ⟨w3.heap.size, 0, none⟩) 1 1] (w3.alloc (.cells #[.int .u8 122] 5)) fun e w' => ∃ p s, e = .returned (.pointer (some ⟨p, 0, none⟩)) ∧ St w' p s [122] 0 ∧ Kept (fun _ => False) (w3.alloc (.cells #[.int .u8 122] 5)) w' ∧ (∀ k, Fp p s k → (w3.alloc (.cells #[.int .u8 122] 5)).heap.size ≤ k) :=
    newReader_any _ _ [122] _ (src_bytes w3 [122] 1 rfl) (by decide) (by decide)
  go_wp2_with fail
  refine HC4.mono ?_
  rintro e w4 ⟨p, s, rfl, hst4, hk4, hf4⟩
  have HK4 : Hid (Same w3 w4) := hid (Same.trans ((Kept.refl _ w3).alloc _) hk4)
  have HS4 : Hid (St w4 p s [122] 0) := hst4
  have HD4 : Hid (Dec w4 d vc vs [2, 1, 3, 3]) := hid ((HD2.out.kept HK3.out (fun _ _ h => h)).kept HK4.out (fun _ _ h => h))
  have hf5 : ∀ k, Fp p s k → w3.heap.size ≤ k := fun k hk => by have := hf4 k hk; rw [World.size_alloc] at this; omega
  have HFP : Hid (∀ k, DF d vc vs k → ¬ Fp p s k) := hid (fun k hk h => by
    have h1 := HD2.out.lt hk
    have h2 := hf5 k h
    have h3 := HK3.out.size
    omega)
  have hp3 : w3.heap.size ≤ p := hf5 p (.inl rfl)
  clear hst4 hk4 hf4 hf5 HC4
  have HN1 : Calls Try.prog 23 #[.pointer (some ⟨d, 0, none⟩), .pointer (some ⟨p, 0, none⟩)] w4 fun e w' => e = .returned (.tuple #[.int .i64 1, .int .i64 0]) ∧ St w' p s [122] 1 ∧ Kept (· = p) w4 w' :=
    next_is w4 d vc vs [2, 1, 3, 3] p 0 s [122] HD4.out (by decide) (by decide) HS4.out (by decide) (by decide) HFP.out 1 (by decide) (by decide) (by decide)
  go_wp2_with fail
  refine HN1.mono ?_
  rintro e w5 ⟨rfl, hst5, hk5⟩
  have HS5 : Hid (St w5 p s [122] 1) := hst5
  have HK5 : Hid (Kept (· = p) w4 w5) := hk5
  have HD5 : Hid (Dec w5 d vc vs [2, 1, 3, 3]) := hid (HD4.out.kept hk5 (fun k hk e => HFP.out k hk (.inl e)))
  clear hst5 hk5 HN1
  have HN2 : Calls Try.prog 23 #[.pointer (some ⟨d, 0, none⟩), .pointer (some ⟨p, 0, none⟩)] w5 fun e w' => e = .returned (.tuple #[.int .i64 0, .int .i64 0]) ∧ St w' p s [122] 3 ∧ Kept (· = p) w5 w' :=
    next_is w5 d vc vs [2, 1, 3, 3] p 1 s [122] HD5.out (by decide) (by decide) HS5.out (by decide) (by decide) HFP.out 0 (by decide) (by decide) (by decide)
  go_wp2_with fail
  refine HN2.mono ?_
  rintro e w6 ⟨rfl, hst6, hk6⟩
  have HS6 : Hid (St w6 p s [122] 3) := hst6
  have HK6 : Hid (Kept (· = p) w5 w6) := hk6
  have HD6 : Hid (Dec w6 d vc vs [2, 1, 3, 3]) := hid (HD5.out.kept hk6 (fun k hk e => HFP.out k hk (.inl e)))
  clear hst6 hk6 HN2
  have HN3 : Calls Try.prog 23 #[.pointer (some ⟨d, 0, none⟩), .pointer (some ⟨p, 0, none⟩)] w6 fun e w' => e = .returned (.tuple #[.int .i64 3, .int .i64 0]) ∧ St w' p s [122] 6 ∧ Kept (· = p) w6 w' :=
    next_is w6 d vc vs [2, 1, 3, 3] p 3 s [122] HD6.out (by decide) (by decide) HS6.out (by decide) (by decide) HFP.out 3 (by decide) (by decide) (by decide)
  go_wp2_with fail
  refine HN3.mono ?_
  rintro e w7 ⟨rfl, _, hk7⟩
  have HKA : Hid (Kept (· = p) w3 w7) := hid (Kept.trans (Kept.trans (Kept.trans HK4.out HK5.out (H := (· = p)) (fun _ _ h => h.elim) (fun _ _ h => h)) HK6.out (H := (· = p)) (fun _ _ h => h) (fun _ _ h => h)) hk7 (fun _ _ h => h) (fun _ _ h => h))
  clear hk7 HN3
  have HR1b : WRow 0 w7 (.slice (some ⟨g1, 0, none⟩) 4 cap1) [1, 0, 3, 7] := ((HR1.out.same HK2.out).same HK3.out).kept HKA.out (fun k hk e => by
    have h1 := ((HR1.out.same HK2.out).same HK3.out).lt hk; omega)
  have HR3b : NRow 0 w7 (.slice (some ⟨g3, 0, none⟩) 4 cap3) [2, 2, 2, 2] := HR3.out.kept HKA.out (fun k hk e => by
    have h1 := HR3.out.lt hk; omega)
  have k0 : w7.cell? ⟨g1, 0, none⟩ = some (.int .u32 1) := HR1b.cell 0 (by decide)
  have k2 : w7.cell? ⟨g1, 2, none⟩ = some (.int .u32 3) := HR1b.cell 2 (by decide)
  have k3 : w7.cell? ⟨g1, 3, none⟩ = some (.int .u32 7) := HR1b.cell 3 (by decide)
  have j0 : w7.cell? ⟨g3, 0, none⟩ = some (.int .i64 2) := HR3b.cell 0 (by decide)
  have HKB : Hid (Same w w7) := hid (Same.then (Same.trans HK1.out (Same.trans HK2.out HK3.out)) HKA.out (fun x hx e => by
    have h1 := HK1.out.size; have h2 := HK2.out.size; have h3 := HK3.out.size; omega))
  have HC8 : Calls Try.prog 10 #[.slice (some ⟨w7.heap.size, 0, none⟩) 2 2] (w7.alloc (.cells #[.int .i64 2, .int .i64 2] 3)) fun e w' => e = .returned (.int .i64 31) ∧ Same (w7.alloc (.cells #[.int .i64 2, .int .i64 2] 3)) w' :=
    check_any _ _ _ [2, 2] (src_ints w7 [2, 2] 2 rfl) (by decide)
  clear HR1b HR3b
  go_wp2_with fail
  refine HC8.mono ?_
  rintro e w8 ⟨rfl, hk8⟩
  have HK8 : Hid (Same w w8) := hid (Same.trans HKB.out (Same.trans ((Kept.refl _ w7).alloc _) hk8))
  clear hk8 HC8
  go_wp2_with fail
  go_ret
  exact ⟨rfl, HK8.out⟩

end Go.Proofs.Ytddjbofdepamhaa
