/-
  Of the proof: parts TzE, TzF.
-/
import Derived.Test.YtcokedgoibiljaaGreatDoorJ48
import Derived.Test.YtcokedgoibiljaaGreatDoorJ16

/-
  Layer 14's laws: a manager, a commit's writes and a block beside it.
-/
namespace Go.Proofs.YtcokedgoibiljaaGreatDoor
open Go.RowKit Go.Maps Go.Sort Go.Shelf

/-- A manager of new memory; beside it the writes that Check told, and blocks that are none of its (Z). -/
def Bes (w0 : World) (K N : Nat) (B : Int) (p : Nat) (S : Ts) (v : Value) (xs : List Wr) (Z : Nat → Prop) (w : World) : Prop := ∃ F, Mg K N B w p S F ∧ Same w0 w ∧ w0.heap.size ≤ N ∧ (∀ k, v.ownBlock = some k → ¬ F k) ∧ (∀ k, Z k → ¬ F k ∧ k < w.heap.size) ∧ RowC w0.heap.size 65 5 wrE w v xs

section
variable {w0 w w' : World} {K K' N p : Nat} {B B' : Int} {S S' : Ts} {v : Value} {xs : List Wr} {Z : Nat → Prop}

theorem Bes.same (h : Bes w0 K N B p S v xs Z w) : Same w0 w := by
  obtain ⟨_, _, h, _⟩ := h
  exact h

theorem Bes.still (h : Bes w0 K N B p S v xs Z w) (hk : Same w w') : Bes w0 K N B p S v xs Z w' := by
  obtain ⟨F, h1, h2, h3, h4, h5, h6⟩ := h
  exact ⟨F, h1.same hk, h2.trans hk, h3, h4, fun k z => ⟨(h5 k z).1, Nat.lt_of_lt_of_le (h5 k z).2 hk.size⟩, h6.kept hk (fun _ _ f => f)⟩

/-- A block that came behind the manager's. -/
theorem Bes.block (h : Bes w0 K N B p S v xs Z w) {g : Nat} (hg : w.heap.size ≤ g) (hk : Same w w') (hl : g < w'.heap.size) : Bes w0 K N B p S v xs (fun k => Z k ∨ k = g) w' := by
  obtain ⟨F, h1, h2, h3, h4, h5, h6⟩ := h
  refine ⟨F, h1.same hk, h2.trans hk, h3, h4, fun k z => ?_, h6.kept hk (fun _ _ f => f)⟩
  rcases z with z | rfl
  · exact ⟨(h5 k z).1, Nat.lt_of_lt_of_le (h5 k z).2 hk.size⟩
  · exact ⟨fun f => by have := (h1.lt f).2; omega, hl⟩

/-- What a call of the manager leaves: the manager, and each block beside it as it was. -/
theorem Bes.next {F : Nat → Prop} (h1 : Mg K N B w p S F) (h2 : Same w0 w) (h3 : w0.heap.size ≤ N) (h4 : ∀ k, v.ownBlock = some k → ¬ F k) (h5 : ∀ k, Z k → ¬ F k ∧ k < w.heap.size) (h6 : RowC w0.heap.size 65 5 wrE w v xs) (a : MgA K' N B' w p F S' w') : Bes w0 K' N B' p S' v xs Z w' ∧ Kept (fun k => ¬ Z k ∧ F k) w w' := by
  obtain ⟨F', a1, a2, a3⟩ := a
  refine ⟨⟨F', a1, h2.then a3 (fun k hk f => by have := (h1.lt f).1; omega), h3, fun k e f => h4 k e ((a2 k (h6.lt e)).1 f), fun k z => ⟨fun f => (h5 k z).1 ((a2 k (h5 k z).2).1 f), Nat.lt_of_lt_of_le (h5 k z).2 a3.size⟩, h6.kept a3 (fun k e f => h4 k e f)⟩, a3.mono (fun k _ f => ⟨fun z => (h5 k z).1 f, f⟩)⟩

theorem bes_com (h : Bes w0 K N B p S v xs Z w) (n : Nb) {t er : Int} {ys : List Wr} (hc : CkT S n t er ys) (hop : S.op n ≠ none) (hB : B ≤ 9223372036854775804) (hK : K + 3 * ys.length ≤ 100000) : Calls Tryz.prog 18 #[.pointer (some ⟨p, 0, none⟩), .int .i64 n.v] w fun e w' => ∃ m, e = .returned (.tuple #[.int .i64 t, .int .i64 er]) ∧ Bes w0 (K + 3 * ys.length) N (B + 1) p ((S.com ys).ends n m) v xs Z w' ∧ Kept (fun k => ¬ Z k) w w' := by
  obtain ⟨F, h1, h2, h3, h4, h5, h6⟩ := h
  refine (gcommitT h1 n hB (fun t' er' xs' hh => by rw [← (ckt_det hc hh).2.2]; exact hK)).mono ?_
  rintro e w' (⟨a1, _⟩ | ⟨x, t', er', xs', m', _, b2, b3, _, b5⟩)
  · exact absurd a1 hop
  · obtain ⟨rfl, rfl, rfl⟩ := ckt_det hc b2
    obtain ⟨g1, g2⟩ := Bes.next h1 h2 h3 h4 h5 h6 b5
    exact ⟨m', b3, g1, g2.mono (fun k _ f => f.1)⟩

theorem bes_now (h : Bes w0 K N B p S v xs Z w) : Calls Tryz.prog 16 #[.pointer (some ⟨p, 0, none⟩)] w fun e w' => e = .returned (.int .i64 (S.M.now - 1)) ∧ w' = w := by
  obtain ⟨F, h1, _⟩ := h
  exact gnowT h1

theorem bes_beg (h : Bes w0 K N B p S v xs Z w) (tn : Nm) (hs : sho tn.s = true) (hl : S.ln < 256) (hb : S.bg + 1 ≤ 100000) : Calls Tryz.prog 15 #[.pointer (some ⟨p, 0, none⟩), .string tn.s] w fun e w' => ∃ nb : Nb, e = .returned (.tuple #[.int .i64 nb.v, .int .i64 0]) ∧ Bes w0 K N B p (S.beg nb tn) v xs Z w' ∧ Kept (fun k => ¬ Z k) w w' := by
  obtain ⟨F, h1, h2, h3, h4, h5, h6⟩ := h
  refine (gbeginT h1 tn hb).mono ?_
  rintro e w' (⟨a, _⟩ | ⟨_, a, _⟩ | ⟨_, _, nb, a1, a2, a3⟩)
  · rw [hs] at a; cases a
  · omega
  · obtain ⟨g1, g2⟩ := Bes.next h1 h2 h3 h4 h5 h6 a3
    exact ⟨nb, by rw [a1]; exact a2, g1, g2.mono (fun k _ f => f.1)⟩

theorem bes_read (h : Bes w0 K N B p S v xs Z w) (n : Nb) (ar en : Nm) (hx : Mxl w0) (hB : B ≤ 9223372036854775806) (hK : K + 1 ≤ 100000) : Calls Tryz.prog 24 #[.pointer (some ⟨p, 0, none⟩), .int .i64 n.v, .string ar.s, .string en.s] w fun e w' => e = .returned (S.see n ar en (fun m => .tuple #[.string ⟨#[]⟩, .int .i64 m]) (reaT S.M ar en)).1 ∧ Bes w0 (K + 1) N B p (S.see n ar en (fun m => .tuple #[.string ⟨#[]⟩, .int .i64 m]) (reaT S.M ar en)).2 v xs Z w' ∧ Kept (fun k => ¬ Z k) w w' := by
  obtain ⟨F, h1, h2, h3, h4, h5, h6⟩ := h
  refine (greadT h1 n ar en (hx.kept h2 (fun f => f)) hB hK).mono ?_
  rintro e w' ⟨a1, a2⟩
  obtain ⟨g1, g2⟩ := Bes.next h1 h2 h3 h4 h5 h6 a2
  exact ⟨a1, g1, g2.mono (fun k _ f => f.1)⟩

/-- Check of an own transaction: what it told stands beside the manager. -/
theorem owe_bes {nb : Nb} {tn : Nm} {mv : Mv} (h : OwE w0 K N p B nb tn S mv w) : Calls Tryz.prog 23 #[.pointer (some ⟨p, 0, none⟩), .int .i64 nb.v] w fun e w' =>
    ∃ (t : Int) (a : Option Addr) (m cap : Nat) (er : Int) (xs : List Wr), e = .returned (.tuple #[.agg #[.int .i64 t, .slice a m cap], .int .i64 er]) ∧ CkT S nb t er xs ∧ Bes w0 K N B p S (.slice a m cap) xs (fun _ => False) w' := by
  obtain ⟨⟨F, h1⟩, h2, h3⟩ := h.ma
  refine (gcheckT h1 nb (by have := h.bb; omega)).mono ?_
  rintro e w' ⟨t, a, m, cap, er, xs, a1, a2, a3, a4⟩
  exact ⟨t, a, m, cap, er, xs, a1, a2, F, h1.same a4, h2.trans a4, h3, fun k e f => by have := a3.ge e; have := (h1.lt f).2; omega, fun k z => z.elim, a3.base h2.size⟩
end

end Go.Proofs.YtcokedgoibiljaaGreatDoor

/-
  Layer 14's laws: what the next transaction reads of what one alone wrote.
-/
namespace Go.Proofs.YtcokedgoibiljaaGreatDoor
open Go.RowKit Go.Maps Go.Sort Go.Shelf

/-- A transaction that has staged nothing, behind so many reads. -/
def Rea14 (w0 : World) (K N p : Nat) (nb : Nb) (tn : Nm) (S3 : Ts) (v : Value) (xs : List Wr) (Z : Nat → Prop) (j : Nat) (w : World) : Prop :=
  ∃ B mv, Bes w0 (K + j) N B p (S3.set nb (tn, mv)) v xs Z w ∧ (∀ k, mv.st k = none) ∧ mv.t = S3.M.now - 1 ∧ B ≤ 40000

section
variable {w0 w w' : World} {K N p : Nat} {nb : Nb} {tn : Nm} {S3 : Ts} {v : Value} {xs : List Wr} {Z : Nat → Prop} {j : Nat}

theorem Rea14.new {B : Int} (h : Bes w0 K N B p (S3.beg nb tn) v xs Z w) (hB : B ≤ 40000) : Rea14 w0 K N p nb tn (S3.beg nb tn) v xs Z 0 w := by
  rw [← beg_set] at h
  exact ⟨B, mv0 (S3.M.now - 1), h, fun k => rfl, rfl, hB⟩

theorem Rea14.still (h : Rea14 w0 K N p nb tn S3 v xs Z j w) (hk : Same w w') : Rea14 w0 K N p nb tn S3 v xs Z j w' := by
  obtain ⟨B, mv, h1, h2⟩ := h
  exact ⟨B, mv, h1.still hk, h2⟩

theorem Rea14.same (h : Rea14 w0 K N p nb tn S3 v xs Z j w) : Same w0 w := by
  obtain ⟨B, mv, h1, h2⟩ := h
  exact h1.same

theorem Rea14.row (h : Rea14 w0 K N p nb tn S3 v xs Z j w) : RowC w0.heap.size 65 5 wrE w v xs := by
  obtain ⟨B, mv, ⟨F, _, _, _, _, _, h6⟩, h2⟩ := h
  exact h6

theorem Rea14.block (h : Rea14 w0 K N p nb tn S3 v xs Z j w) {g : Nat} (hg : w.heap.size ≤ g) (hk : Same w w') (hl : g < w'.heap.size) : Rea14 w0 K N p nb tn S3 v xs (fun k => Z k ∨ k = g) j w' := by
  obtain ⟨B, mv, h1, h2⟩ := h
  exact ⟨B, mv, h1.block hg hk hl, h2⟩

theorem Rea14.less {Z' : Nat → Prop} (h : Rea14 w0 K N p nb tn S3 v xs Z j w) (hz : ∀ k, Z' k → Z k) : Rea14 w0 K N p nb tn S3 v xs Z' j w := by
  obtain ⟨B, mv, ⟨F, h1, h3, h4, h5, h6, h7⟩, h2⟩ := h
  exact ⟨B, mv, ⟨F, h1, h3, h4, h5, fun k hk => h6 k (hz k hk), h7⟩, h2⟩

/-- A write that the next transaction is to read. -/
structure Wri14 (M : Mst) (tn : Nm) (x : Wr) : Prop where
  ten : x.b.tn = tn.s
  nam : namT ⟨x.b.ar, x.b.ok.2⟩ x.n = true
  vis : visV (M.V x.b x.n) (max (M.now - 1 + 1) M.floor) = if x.there then some x.data else none
  gone : x.there = false → x.data = ⟨#[]⟩

theorem rea14_read (h : Rea14 w0 K N p nb tn S3 v xs Z j w) (hK : K + j + 1 ≤ 100000) (hx : Mxl w0) (x : Wr) (hw : Wri14 S3.M tn x) :
    Calls Tryz.prog 24 #[.pointer (some ⟨p, 0, none⟩), .int .i64 nb.v, .string x.b.ar, .string x.n.s] w fun e w' => e = .returned (.tuple #[.string x.data, .int .i64 (if x.there = true then 0 else 144)]) ∧ Rea14 w0 K N p nb tn S3 v xs Z (j + 1) w' ∧ Kept (fun k => ¬ Z k) w w' := by
  obtain ⟨B, mv, h1, h2, h3, h4⟩ := h
  refine (bes_read h1 nb ⟨x.b.ar, x.b.ok.2⟩ x.n hx (by omega) (by omega)).mono ?_
  rintro e w' ⟨a1, a2, a3⟩
  have hk : kyT tn ⟨x.b.ar, x.b.ok.2⟩ x.n = (x.b, x.n) := by
    unfold kyT
    exact Prod.ext (Bx.ext' hw.ten.symm rfl) rfl
  have hsee : ∀ z : Int → Value, (S3.set nb (tn, mv)).see nb ⟨x.b.ar, x.b.ok.2⟩ x.n z (reaT (S3.set nb (tn, mv)).M ⟨x.b.ar, x.b.ok.2⟩ x.n) = ((reaT S3.M ⟨x.b.ar, x.b.ok.2⟩ x.n tn mv).1, S3.set nb (tn, notM mv (x.b, x.n))) := fun z => by
    unfold Ts.see
    rw [set_op14]
    simp only
    rw [if_pos hw.nam, set_set14]
    show ((reaT S3.M ⟨x.b.ar, x.b.ok.2⟩ x.n tn mv).1, S3.set nb (tn, notM mv (kyT tn ⟨x.b.ar, x.b.ok.2⟩ x.n))) = _
    rw [hk]
  rw [hsee] at a1 a2
  refine ⟨?_, ⟨B, notM mv (x.b, x.n), a2, fun k => by rw [(notM_st mv _ k).1]; exact h2 k, by rw [(notM_st mv _ (x.b, x.n)).2]; exact h3, h4⟩, a3⟩
  rw [a1]
  have hr := rea_vis S3.M ⟨x.b.ar, x.b.ok.2⟩ x.n tn mv (h2 _)
  rw [hk, h3] at hr
  simp only at hr
  rw [hr, hw.vis]
  cases ht : x.there with
  | true => rfl
  | false => rw [hw.gone ht]; rfl

/-- All that one alone wrote is to be read so. -/
theorem wri14 {S : Ts} {n n2 : Nb} {m : Int} {mv : Mv} (hx : xs ≠ []) (hst : StW mv xs) (ho : OwnM tn (S.M.now - 1) mv) (hup : UpTo S.M.V (S.M.now + 1)) (hf : S.M.floor ≤ S.M.now) (i : Nat) (hi : i < xs.length) : Wri14 (((S.com xs).ends n m).beg n2 tn).M tn xs[i] := by
  have hm := (hst.2 xs[i]).1 (List.getElem_mem _)
  obtain ⟨_, k2, k3⟩ := ho.key _ _ hm
  refine ⟨k2, k3, ?_, ho.gone _ _ hm⟩
  have h1 := own_back (S := S) (n := n) (m := m) hx hup hst.1 i hi
  have h2 : (((S.com xs).ends n m).beg n2 tn).M = ((S.com xs).ends n m).M := rfl
  have h3 := com_now (S := S) (n := n) (m := m) hx
  have h4 := com_floor (S := S) (n := n) (m := m) hx hf
  rw [h2, h3, show max (S.M.now + 1 - 1 + 1) ((S.com xs).ends n m).M.floor = S.M.now + 1 by omega]
  exact h1

end

end Go.Proofs.YtcokedgoibiljaaGreatDoor
