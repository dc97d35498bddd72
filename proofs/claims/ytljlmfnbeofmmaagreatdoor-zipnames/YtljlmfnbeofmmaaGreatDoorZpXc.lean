import Derived.Test.YtljlmfnbeofmmaaGreatDoorZpXa
import Derived.Test.YtljlmfnbeofmmaaGreatDoorZpV
import Derived.Test.YtljlmfnbeofmmaaGreatDoorZpF
namespace Go.Proofs.YtljlmfnbeofmmaaGreatDoor
open Go.RowKit

set_option maxRecDepth 100000 in
set_option maxHeartbeats 400000 in
theorem zwrite_bad (w : World) (a : Option Addr) (len cap : Nat) (E : Nat → En) (hs : Ents w (fun _ => True) a len E) (hn : len ≤ 100000000) (hcap : len ≤ cap) (hx : Mxl w) (hc : chkE E len ≠ 0) :
  Calls Tryz.prog 13 #[.slice a len cap] w fun e w' => e = .returned (.tuple #[.slice none 0 0, .int .i64 (chkE E len : Nat)]) ∧ Same w w' := by
 have HC := checkw_any w a len cap E hs hn hcap hx
 obtain ⟨c, hcc⟩ : ∃ c, c = chkE E len := ⟨_, rfl⟩
 rw [← hcc] at HC hc ⊢
 have hed : ((c : Int) != 0) = true := by simp; omega
 clear hs hcc hc
 go_enter Tryz.func13, Tryz.ntmps13
 go_wp2_with fail
 refine HC.mono ?_
 rintro e w1 ⟨rfl, hk1⟩
 have HK1 : Hid (Same w w1) := hk1
 clear hk1 HC
 go_wp2_with fail
 refine bodyPost_ret (v := .tuple #[.slice none 0 0, .int .i64 (c : Nat)]) (by simp [results, Tryz.results13, go_sem]) rfl ?_
 exact ⟨rfl, HK1.out⟩

theorem piesB_app (l : List It) (x : It) : piesB (l ++ [x]) = piesB l ++ pieB x := by simp [piesB]

theorem recsB_app (at' : Nat) (l : List It) (x : It) : recsB at' (l ++ [x]) = recsB at' l ++ recB x.lab (at' + (piesB l).length) := by
 induction l generalizing at' with
 | nil => simp [recsB, piesB]
 | cons y r ih =>
  rw [List.cons_append, recsB, recsB, ih, List.append_assoc]
  congr 3
  simp [piesB]
  omega

structure WrI (w wr : World) (E : Nat → En) (i : Nat) (L : List It) (vp vr : Value) : Prop where
 len : L.length = i
 its : ∀ j x, L[j]? = some x → ∃ bs, PDef (sb (E j).d) bs ∧ x = ⟨labZ (E j) bs, bodZ (E j) bs⟩
 pie : Row wr vp (piesB L)
 recs : Row wr vr (recsB 0 L)
 newp : ∀ k, vp.ownBlock = some k → w.heap.size ≤ k
 newr : ∀ k, vr.ownBlock = some k → w.heap.size ≤ k
 apart : ∀ k, vp.ownBlock = some k → vr.ownBlock ≠ some k
 same : Same w wr
 lenp : (piesB L).length ≤ i * 8400
 lenr : (recsB 0 L).length ≤ i * 120

theorem WrI.zero (w wr : World) (E : Nat → En) (hk : Same w wr) : WrI w wr E 0 [] (.slice none 0 0) (.slice none 0 0) :=
 ⟨rfl, fun j x h => (by simp at h), World.ownsRow_nil wr 0 5 1, World.ownsRow_nil wr 0 5 1, fun k e => (by cases e), fun k e => (by cases e), fun k e => (by cases e), hk, by simp [piesB], by simp [recsB]⟩

theorem wrAll_ok {E : Nat → En} {n i : Nat} (h : wrAll E n i = 0) : ∀ j, i ≤ j → j < i + n → wrE E j = 0 := by
 induction n generalizing i with
 | zero => intro j h1 h2; omega
 | succ n ih =>
  intro j h1 h2
  unfold wrAll at h
  split at h
  ·rename_i h3
   by_cases e : j = i
   ·rw [e]; exact h3
   ·exact ih h j (by omega) (by omega)
  ·rename_i h3; exact absurd h h3

theorem chkE_ok {E : Nat → En} {n : Nat} (h : chkE E n = 0) : n ≤ 64 ∧ ∀ j, j < n → nam8 (sb (E j).n) = true ∧ (E j).d.size ≤ 8192 := by
 unfold chkE at h
 split at h
 ·cases h
 ·rename_i h1
  refine ⟨by omega, fun j hj => ?_⟩
  have h2 := wrAll_ok h j (Nat.zero_le _) (by omega)
  unfold wrE at h2
  split at h2
  ·cases h2
  ·rename_i h3
   split at h2
   ·cases h2
   ·rename_i h4
    refine ⟨?_, by omega⟩
    cases h5 : nam8 (sb (E j).n) with
    | true => rfl
    | false => exact absurd (.inl h5) h3

theorem labZ_ok (y : En) (bs : List Nat) (hn : nam8 (sb y.n) = true) (hd : y.d.size ≤ 8192) : MkOk (labZ y bs) ∧ (∀ b ∈ (labZ y bs).name, b < 256) ∧ (labZ y bs).name.length ≤ 64 ∧ (bodZ y bs).length ≤ 8192 := by
 have h1 : (sb y.n).length ≤ 64 := by
  unfold nam8 at hn
  simp only [Bool.and_eq_true, decide_eq_true_eq] at hn
  exact hn.1
 have h2 : (bodZ y bs).length ≤ 8192 := by
  unfold bodZ
  split
  ·omega
  ·rw [sb_size]; exact hd
 refine ⟨⟨?_, more_lt _ _, by show (bodZ y bs).length < _; omega, by show y.d.size < _; omega, by show (sb y.n).length < _; omega⟩, fun b hb => sb_lt y.n b hb, h1, h2⟩
 show (if bs.length < y.d.size then 8 else 0) < 65536
 split <;> omega

theorem pieB_len (x : It) : (pieB x).length = 30 + x.lab.name.length + x.bytes.length := by
 simp [pieB, hedB, labB_len, leOf_length]
 omega

theorem recB_len (m : Mk) (p : Nat) : (recB m p).length = 46 + m.name.length := by
 simp [recB, labB_len, leOf_length]
 omega

end Go.Proofs.YtljlmfnbeofmmaaGreatDoor
