/-
  Layer 18: awake: the document's examples.
-/
import Derived.Test.YtjjhjbmmhkcapaaFmE
namespace Go.Proofs.Ytjjhjbmmhkcapaa
open Go.RowKit

def F1 : Fm := ⟨1, ⟨#[]⟩⟩
def E9 : List Nat := [0, 0, 0, 0, 1, 27, 223, 5, 165]

theorem e9_frm : frmB F1 = E9 := by decide +kernel
theorem f1_may : F1.May := ⟨by decide, by decide, by decide⟩
theorem e9_enc : encB F1 = E9 := by unfold encB; rw [if_pos (errE_may.2 f1_may), e9_frm]

theorem rd18a : Rd ([] ++ [0, 0, 0, 0, 1]) [] [0, 0, 0, 0, 1] 0 := .stop rfl
theorem rd18b : Rd ([0, 0, 0, 0, 1] ++ [27, 223, 5, 165, 33, 78, 0, 0]) [F1] [33, 78, 0, 0] 180 :=
  .one (by
    have e : ([0, 0, 0, 0, 1] ++ [27, 223, 5, 165, 33, 78, 0, 0] : List Nat) = frmB F1 ++ [33, 78, 0, 0] := by rw [e9_frm]; rfl
    rw [e]
    exact nx_frm f1_may _) (.stop rfl)

theorem enc18 (w : World) : Calls Try.prog 10 #[.agg #[.int .i64 1, .string ⟨#[]⟩]] w fun x w1 => ∃ g c, x = .returned (.tuple #[.slice (some ⟨g, 0, none⟩) 9 c, .int .i64 0]) ∧ 9 ≤ c ∧ Fresh w w1 (.slice (some ⟨g, 0, none⟩) 9 c) E9 := by
  refine (fenc_any w F1).mono ?_
  rintro x w1 ⟨v, rfl, hf, _⟩
  rw [e9_enc] at hf
  rw [errE_may.2 f1_may]
  obtain ⟨a, c, rfl, hne⟩ := hf.row.shape
  obtain ⟨g, rfl⟩ := hne (by unfold E9; simp)
  exact ⟨g, c, rfl, Row.room hf.row _ _ _ rfl, hf⟩

theorem len0_18 {B : Nat} {w : World} {v : Value} (h : RowC B 23 2 fmE w v []) : ∃ a c, v = .slice a 0 c := by
  obtain ⟨a, c, rfl, _⟩ := h.shape
  exact ⟨a, c, rfl⟩

set_option maxRecDepth 100000 in
set_option maxHeartbeats 4000000 in
theorem awake18 (w : World) : Calls Try.prog 9 #[] w fun x w' => x = .returned (.bool true) ∧ Same w w' := by
  have H1 := enc18 w
  go_enter Try.func9, Try.ntmps9
  go_wp2_with fail
  refine H1.mono ?_
  rintro x w1 ⟨gb, cb, rfl, hcb, hf1⟩
  have HF1 := hid hf1
  have H2 := dnew18 w1
  clear hf1 H1
  go_wp2_with fail
  refine H2.mono ?_
  rintro x w2 ⟨d, rfl, hd, hk2, hd2⟩
  have HD2 := hid hd
  have HK2 := hid hk2
  have hgl : gb < w1.heap.size := HF1.out.row.lt rfl
  have HGD : Hid (gb ≠ d ∧ w.heap.size ≤ gb ∧ w.heap.size ≤ d ∧ gb < w1.heap.size) := hid ⟨by omega, HF1.out.new gb rfl, by have := HF1.out.kept.size; omega, hgl⟩
  have HR2 : Hid (Row w2 (.slice (some ⟨gb, 0, none⟩) 9 cb) E9) := hid (HF1.out.row.kept hk2 (fun _ _ f => f))
  have H3 : Calls Try.prog 16 #[.pointer (some ⟨d, 0, none⟩), .slice (some ⟨gb, 0, none⟩) 5 cb] w2 fun x w' => FedA w2 d (.slice none 0 0) [] [0, 0, 0, 0, 1] 0 x w' :=
    dfeed_any HD2.out (I := fun k => k = gb) (bs := [0, 0, 0, 0, 1]) (by
      have h9 := (Src.ofRow HR2.out).sub (a' := some ⟨gb, 0, none⟩) 0 5 (by decide) (fun _ b o e => e) cb
      exact h9.mono (fun k e => by injection e with e; exact e.symm)) (fun k hk hf => by
      subst hk
      rcases hf with e | e
      · exact HGD.out.1 e
      · cases e) (by decide) (fun n c e => by cases e) (by decide) (fun _ => rd18a) (fun h => absurd rfl h)
  clear hd hk2 H2
  go_wp2_with fail
  refine H3.mono ?_
  rintro x w3 ⟨vo3, v3, rfl, ho3, hd3, hk3, hn3⟩
  rw [if_pos rfl] at hd3
  obtain ⟨a3, c3, rfl⟩ := len0_18 ho3
  have HD3 := hid hd3
  have HK3 := hid hk3
  have HN3 := hid hn3
  have H4 := dwants_any hd3
  have ew : wantD [0, 0, 0, 0, 1] 0 = 4 := by decide
  rw [ew] at H4
  clear hd3 hk3 hn3 ho3 H3 ew
  go_wp2_with fail
  refine H4.mono ?_
  rintro x w4 ⟨rfl, hk4⟩
  have HK4 := hid hk4
  have HD4 := hid (HD3.out.same hk4)
  have HR4 : Hid (Row w4 (.slice (some ⟨gb, 0, none⟩) 9 cb) E9) := hid ((HR2.out.kept HK3.out (fun k e hf => by
    cases e
    rcases hf with e | e
    · exact HGD.out.1 e
    · cases e)).kept hk4 (fun _ _ f => f))
  have hc5 : ¬ cb = 5 := by omega
  have HR0 : Hid (Row (w4.alloc (.cells #[] 5)) (.slice (some ⟨w4.heap.size, 0, none⟩) 0 0) []) := hid (row_none w4)
  have HS5 : Hid (Src (w4.alloc (.cells #[] 5)) (fun k => k = gb) (.slice (some ⟨gb, 5, none⟩) 4 (cb - 5)) [27, 223, 5, 165]) := hid (by
    have h9 := ((Src.ofRow HR4.out).kept (show Same w4 (w4.alloc (.cells #[] 5)) from (Kept.refl _ _).alloc _) (fun _ _ _ f => f)).sub (a' := some ⟨gb, 5, none⟩) 5 4 (by decide) (fun _ b o e => by injection e with e; injection e with e1 e2; subst e1 e2; rfl) (cb - 5)
    exact h9.mono (fun k e => by injection e with e; exact e.symm))
  clear hk4 H4
  go_wp2_with (at_builtin; refine wpList_append_any _ rfl (.tmp 35) (.tmp 37) rfl (.slice (some ⟨w4.heap.size, 0, none⟩) 0 0) [] rfl HR0.out (fun k => k = gb) (.slice (some ⟨gb, 5, none⟩) 4 (cb - 5)) [27, 223, 5, 165] rfl (fun n c e => by cases e) HS5.out (by decide) ?_)
  intro v5 w5 hr5 hg5 ho5
  have HK0 : Hid (Same w4 (w4.alloc (.cells #[] 5))) := hid ((Kept.refl _ _).alloc _)
  have HF5 : Hid (Fresh w4 w5 v5 [27, 223, 5, 165]) := hid ⟨by simpa using hr5, HK0.out.grown hg5 (fun j e => .inr (by
    have e1 : w4.heap.size = j := by simpa [Value.ownBlock] using e
    omega)), fun k e => by
      rcases ho5 with h9 | h9
      · rw [h9] at e
        have e1 : w4.heap.size = k := by simpa [Value.ownBlock] using e
        omega
      · rw [h9] at e
        have e1 : w4.heap.size + 1 = k := by simpa using e
        omega⟩
  have HF5b : Hid (Fresh w4 (w5.alloc (.cells #[.int .u8 33, .int .u8 78, .int .u8 0, .int .u8 0] 5)) v5 [27, 223, 5, 165]) := hid (HF5.out.alloc _)
  have HS6 : Hid (Src (w5.alloc (.cells #[.int .u8 33, .int .u8 78, .int .u8 0, .int .u8 0] 5)) (fun k => k = w5.heap.size) (.slice (some ⟨w5.heap.size, 0, none⟩) 4 4) [33, 78, 0, 0]) := hid (src_lit w5 [33, 78, 0, 0] 4 rfl)
  clear hr5 hg5 ho5
  go_wp2_with (at_builtin; refine wpList_append_any _ rfl (.tmp 38) (.tmp 39) rfl v5 [27, 223, 5, 165] rfl HF5b.out.row (fun k => k = w5.heap.size) (.slice (some ⟨w5.heap.size, 0, none⟩) 4 4) [33, 78, 0, 0] rfl (fun n c e => by cases e) HS6.out (by decide) ?_)
  intro v6 w6 hr6 hg6 ho6
  have HF6 : Hid (Fresh w4 w6 v6 [27, 223, 5, 165, 33, 78, 0, 0]) := hid (HF5b.out.app' hr6 hg6 (by simpa using ho6))
  have HD6 := hid (HD4.out.same HF6.out.kept)
  have HR6 : Hid (Row w6 (.slice (some ⟨gb, 0, none⟩) 9 cb) E9) := hid (HR4.out.kept HF6.out.kept (fun _ _ f => f))
  have H7 : Calls Try.prog 16 #[.pointer (some ⟨d, 0, none⟩), v6] w6 fun x w' => FedA w6 d v3 [F1] [33, 78, 0, 0] 180 x w' :=
    dfeed_any HD6.out (I := fun k => v6.ownBlock = some k) (bs := [27, 223, 5, 165, 33, 78, 0, 0]) (Src.ofRow HF6.out.row) (fun k hk hf => by
      have h1 := HF6.out.new k hk
      have h2 := HD4.out.lt hf
      omega) (by decide) (fun n c e => by
        have h9 := HF6.out.row
        rw [e] at h9
        rcases h9.2 with ⟨h10, _⟩ | ⟨g, cap, cur, h10, _⟩
        · injection h10 with _ e1 e2; exact ⟨e1, e2⟩
        · cases h10) (by decide) (fun _ => rd18b) (fun h => absurd rfl h)
  clear hr6 hg6 ho6
  go_wp2_with fail
  refine H7.mono ?_
  rintro x w7 ⟨vo7, v7, rfl, ho7, hd7, hk7, hn7⟩
  rw [if_neg (by decide)] at hd7
  have HO7 := hid ho7
  have HD7 := hid hd7
  have HK7 := hid hk7
  have HN7 := hid hn7
  have HFD : Hid (∀ k, Fd d v3 k → k = d ∨ w2.heap.size ≤ k) := hid (fun k hf => by
    rcases HN3.out k hf with e | e
    · rcases e with e | e
      · exact .inl e
      · cases e
    · exact .inr e)
  have HR7 : Hid (Row w7 (.slice (some ⟨gb, 0, none⟩) 9 cb) E9) := hid (HR6.out.kept hk7 (fun k e hf => by
    obtain rfl : gb = k := by injection e
    rcases HFD.out _ hf with e | e
    · exact HGD.out.1 e
    · have := HK2.out.size; have := HGD.out.2.2.2; omega))
  have H8 := dfeed_bad w7 d v7 [] 180 hd7 (by decide) (.slice (some ⟨gb, 0, none⟩) 9 cb)
  clear ho7 hd7 hk7 hn7 H7
  go_wp2_with fail
  refine H8.mono ?_
  rintro x w8 ⟨vo8, v8, rfl, ho8, hd8, hk8, hn8⟩
  rw [if_neg (by decide)] at hd8
  obtain ⟨a8, c8, rfl⟩ := len0_18 ho8
  have HFD7 : Hid (∀ k, Fd d v7 k → k = d ∨ w2.heap.size ≤ k) := hid (fun k hf => by
    rcases HN7.out k hf with e | e
    · exact HFD.out k e
    · have h1 := HK3.out.size
      have h2 := HK4.out.size
      have h3 := HF6.out.kept.size
      exact .inr (by omega))
  have HD8 := hid hd8
  have HK8 := hid hk8
  have HR8 : Hid (Row w8 (.slice (some ⟨gb, 0, none⟩) 9 cb) E9) := hid (HR7.out.kept hk8 (fun k e hf => by
    obtain rfl : gb = k := by injection e
    rcases HFD7.out _ hf with e | e
    · exact HGD.out.1 e
    · have := HK2.out.size; have := HGD.out.2.2.2; omega))
  have HB9 : Hid (∀ W, Same w8 W → ∀ g, Src W (fun k => k = g) (.slice (some ⟨g, 0, none⟩) 9 9) E9 → Calls Try.prog 12 #[.slice (some ⟨gb, 0, none⟩) 9 cb, .slice (some ⟨g, 0, none⟩) 9 9] W fun e w' => e = .returned (.bool true) ∧ Same W w') := hid (fun W hk g hs => by
    have h9 := bytes18 W _ _ _ _ E9 E9 (Src.ofRow (HR8.out.kept hk (fun _ _ f => f))) hs (by decide) (by decide)
    rw [decide_eq_true rfl] at h9
    exact h9)
  have HKF : Hid (Same w w8) := hid (by
    have h1 : Same w w2 := Same.trans HF1.out.kept HK2.out
    have h3 : Same w w3 := h1.then HK3.out (fun k hk f => by
      rcases f with e | e
      · have := HGD.out.2.2.1; omega
      · cases e)
    have h6 : Same w w6 := Same.trans h3 (Same.trans HK4.out HF6.out.kept)
    have h7 : Same w w7 := h6.then HK7.out (fun k hk f => by
      rcases HFD.out k f with e | e
      · have := HGD.out.2.2.1; omega
      · have := h1.size; omega)
    exact h7.then hk8 (fun k hk f => by
      rcases HFD7.out k f with e | e
      · have := HGD.out.2.2.1; omega
      · have := h1.size; omega))
  clear ho8 hd8 hk8 hn8 H8
  go_wp2_with fail
  refine (HB9.out _ ((Kept.refl _ w8).alloc _) _ (src_lit w8 E9 9 rfl)).mono ?_
  rintro x w9 ⟨rfl, hk9⟩
  have HK9 : Hid (Same w8 w9) := hid (Same.trans ((Kept.refl _ w8).alloc _) hk9)
  have HO9 : Hid (RowC w6.heap.size 23 2 fmE w9 vo7 [F1]) := hid ((HO7.out.kept HK8.out (HD7.out.off HO7.out)).kept HK9.out (fun _ _ f => f))
  have HD9 := hid (HD8.out.same HK9.out)
  have H10 : Calls Try.prog 21 #[vo7, .slice (some ⟨w9.heap.size, 0, none⟩) 1 1] (w9.alloc (.cells #[.int .i64 1, .string ⟨#[]⟩] 23)) fun e w' => e = .returned (.bool true) ∧ Same (w9.alloc (.cells #[.int .i64 1, .string ⟨#[]⟩] 23)) w' :=
    fsame_true _ _ _ _ _ [F1] ((SrcC.ofRow fmE_ok HO9.out).same18 ((Kept.refl _ _).alloc _)) (src_fm w9 F1) (by decide)
  clear hk9
  go_wp2_with fail
  refine H10.mono ?_
  rintro x w10 ⟨rfl, hk10⟩
  have HK10 : Hid (Same w9 w10) := hid (Same.trans ((Kept.refl _ w9).alloc _) hk10)
  have H11 := dwrong_any (HD9.out.same HK10.out)
  clear hk10 H10
  go_wp2_with fail
  refine H11.mono ?_
  rintro x w11 ⟨rfl, hk11⟩
  have HK11 : Hid (Same w9 w11) := hid (Same.trans HK10.out hk11)
  have H12 := dwants_any (HD9.out.same HK11.out)
  rw [show wantD [] 180 = 0 from rfl] at H12
  clear hk11 H11
  go_wp2_with fail
  refine H12.mono ?_
  rintro x w12 ⟨rfl, hk12⟩
  have HK12 : Hid (Same w w12) := hid (Same.trans HKF.out (Same.trans HK9.out (Same.trans HK11.out hk12)))
  clear hk12 H12
  go_wp2_with fail
  go_ret
  exact ⟨rfl, HK12.out⟩

end Go.Proofs.Ytjjhjbmmhkcapaa
