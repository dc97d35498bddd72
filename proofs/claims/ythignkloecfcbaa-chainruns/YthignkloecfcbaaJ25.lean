/-
  Of the proof: parts CrF, CrK, CrK2.
-/
import Derived.BigRegion
import Derived.Deep.CutRange
import Derived.Deep.RegionLaw
import Derived.Test.YthignkloecfcbaaJ24

/-
  Layer 12, the reference: List.
-/
namespace Go.Proofs.Ythignkloecfcbaa
open Go.RowKit Go.Maps Go.Sort

/-- The names of an archive among keys. -/
def nmK (b : Bx) (l : List Ky) : List Nm := (l.filter (fun k => decide (k.1 = b))).map (·.2)

theorem nmK_succ (b : Bx) (l : List Ky) (i : Nat) (hi : i < l.length) : nmK b (l.take (i + 1)) = if l[i].1 = b then nmK b (l.take i) ++ [l[i].2] else nmK b (l.take i) := by
  unfold nmK
  rw [List.take_succ_eq_append_getElem hi, List.filter_append, List.map_append]
  by_cases e : l[i].1 = b
  · rw [if_pos e, List.filter_cons, if_pos (decide_eq_true e)]; rfl
  · rw [if_neg e, List.filter_cons, if_neg (fun e2 => e (of_decide_eq_true e2))]; simp

theorem nmK_mem (b : Bx) (l : List Ky) (n : Nm) : n ∈ nmK b l ↔ (b, n) ∈ l := by
  unfold nmK
  rw [List.mem_map]
  constructor
  · rintro ⟨k, hk, rfl⟩
    obtain ⟨h1, h2⟩ := List.mem_filter.1 hk
    have := of_decide_eq_true h2
    subst this
    exact h1
  · intro h
    exact ⟨(b, n), List.mem_filter.2 ⟨h, decide_eq_true rfl⟩, rfl⟩

theorem nmK_ris (b : Bx) {l : List Ky} (h : l.Pairwise ltK12) : RisN (nmK b l) := by
  unfold nmK RisN
  rw [List.pairwise_map, List.pairwise_filter]
  refine h.imp (fun {x y} hxy e1 e2 => ?_)
  have e1' := of_decide_eq_true e1
  have e2' := of_decide_eq_true e2
  rcases ltK12_split hxy with e | e
  · rw [e1', e2'] at e; exact absurd e (ltB_irr _)
  · exact e.2

theorem nmK_len (b : Bx) (l : List Ky) : (nmK b l).length ≤ l.length := by
  unfold nmK
  rw [List.length_map]
  exact List.length_filter_le _ _

theorem three12 (q1 q2 : Bool) : (q1 = false ∨ (q1 = true ∧ q2 = false)) ∨ (q1 = true ∧ q2 = true) := by cases q1 <;> cases q2 <;> simp

set_option maxRecDepth 100000 in
set_option maxHeartbeats 4000000 in
theorem rlist_any {N : Nat} {w : World} {p : Nat} {L : List Lv} {now floor : Int} {v : Value} (h : Rc N w p L now floor v) (b : Bx) (t : Int) (hr : ∀ b n, RisV (ofK L b n)) (hg : ∀ b n, ∀ x ∈ ofK L b n, x.there = false → x.data = ⟨#[]⟩) : Calls Try.prog 28 #[.pointer (some ⟨p, 0, none⟩), .agg #[.string b.tn, .string b.ar], .int .i64 t] w fun e w' => LisA w (fun n => isTh (ofK L b n) (max t floor)) e w' := by
  obtain ⟨wA, hwA⟩ : ∃ W, W = w.alloc (.cells #[.string b.tn, .string b.ar] 62) := ⟨_, rfl⟩
  obtain ⟨xb, hxb⟩ : ∃ y, y = w.heap.size := ⟨_, rfl⟩
  have hka : Same w wA := by rw [hwA]; exact (Kept.refl _ w).alloc _
  have HB : Hid (Blk wA xb #[.string b.tn, .string b.ar] 62) := hid (by rw [hwA, hxb]; exact Blk.new w _ _)
  have HKY := rkeys_any (h.same hka) t hr hg
  have HLL : Hid (L.length ≤ 100000 ∧ Same w wA) := hid ⟨h.len, hka⟩
  clear h hr hg hka
  go_enter Try.func28, Try.ntmps28
  go_wp2_with fail
  rw [← hwA, ← hxb]
  clear hwA hxb
  refine HKY.mono ?_
  rintro e w1 ⟨v, ks, rfl, hrow, hki, hk1⟩
  clear HKY
  obtain ⟨ka, kc, hv, hgs, _⟩ := hrow.shape
  obtain ⟨kl, hkl⟩ : ∃ n, n = ks.length := ⟨_, rfl⟩
  rw [← hkl] at hv
  subst hv
  have HI : Hid (RowC wA.heap.size 36 3 kyE w1 (.slice ka kl kc) ks ∧ KyI L (max t floor) L.length ks ∧ Same w w1 ∧ kl = ks.length ∧ kl ≤ 100000 ∧ (ks ≠ [] → ∃ g, ka = some ⟨g, 0, none⟩) ∧ Blk w1 xb #[.string b.tn, .string b.ar] 62) := hid ⟨hrow, hki, HLL.out.2.trans hk1, hkl, by have := hki.len; have := HLL.out.1; omega, hgs, HB.out.kept hk1 (fun f => f)⟩
  clear hrow hki hk1 hgs hkl
  go_wp2_with fail
  go_loopg [7, 9] kl (fun q z7 z9 wr => ∃ (i : Nat) (a0 : Option Addr) (l0 c0 : Nat), kl - i ≤ q ∧ i ≤ kl ∧ z7 = .slice a0 l0 c0 ∧ z9 = .int .i64 (i : Nat) ∧ Hid (RowE w1.heap.size 9 nmV wr (.slice a0 l0 c0) (nmK b (ks.take i)) ∧ Same w1 wr))
  case atStart => exact ⟨0, none, 0, 0, by omega, by omega, rfl, rfl, hid ⟨RowE.nil, Kept.refl _ _⟩⟩
  case round =>
    obtain ⟨i, a0, l0, c0, hq, hil, rfl, rfl, HS⟩ := hrel
    by_cases hlt : i < kl
    · have hli : decide (i < kl) = true := decide_eq_true hlt
      have hli2 : (i : Int) < (kl : Int) := by omega
      have hlt2 : i < ks.length := by have := HI.out.2.2.2.1; omega
      obtain ⟨g, hg⟩ := HI.out.2.2.2.2.2.1 (fun e => by rw [e] at hlt2; simp at hlt2)
      subst hg
      obtain ⟨y, hy⟩ : ∃ y, y = ks[i] := ⟨_, rfl⟩
      have hcw : ∀ q u, q < 3 → (kyE y)[q]? = some u → wr.cell? ⟨g, i * 3 + q, none⟩ = some u := fun q u hq e => by rw [RowC.cell kyE_ok (HI.out.1.kept HS.out.2 (fun _ _ f => f)) i q hlt2 hq, ← hy, e]
      have k0 := hcw 0 (.string y.1.tn) (by decide) rfl
      have k1 := hcw 1 (.string y.1.ar) (by decide) rfl
      have k2 := hcw 2 (.string y.2.s) (by decide) rfl
      rw [Nat.add_zero] at k0
      have hbb := HI.out.2.2.2.2.2.2.kept HS.out.2 (fun f => f)
      have b0 := hbb.cell 0
      have b1 := hbb.cell 1
      simp only [List.getElem?_toArray, List.getElem?_cons_zero, List.getElem?_cons_succ] at b0 b1
      have hiw : IntKind.i64.wrap ((i : Int) + 1) = ((i + 1 : Nat) : Int) := by have := HI.out.2.2.2.2.1; rw [IntKind.wrap_i64]; omega
      have s1 := streq12 y.1.tn b.tn
      have s2 := streq12 y.1.ar b.ar
      have HSU := hid (nmK_succ b ks i hlt2)
      rw [← hy] at HSU
      clear hcw hy hbb
      by_cases hm : y.1.tn = b.tn ∧ y.1.ar = b.ar
      · obtain ⟨m1, m2⟩ := hm
        have HN : Hid (nmK b (ks.take (i + 1)) = nmK b (ks.take i) ++ [y.2]) := hid (by rw [HSU.out, if_pos (Bx.ext' m1 m2)])
        rw [decide_eq_true m1] at s1
        rw [decide_eq_true m2] at s2
        have HSZ : Hid ((nmK b (ks.take i)).length ≤ 100000 ∧ w1.heap.size ≤ wr.heap.size) := hid ⟨by have h1 := nmK_len b (ks.take i); rw [List.length_take] at h1; have := HI.out.2.2.2.2.1; omega, HS.out.2.size⟩
        clear m1 m2 HSU
        go_upto_region 7 with fail
        go_quiet (fail)
        all_goals go_wp2_with (at_builtin; refine wpList_append_e _ nmV nmV_one w1.heap.size 56 9 (.string ⟨#[]⟩) 16 Try.underlying56 Try.infoStr rfl (by decide) rfl (.tmp 37) (.tmp 43) rfl (.slice a0 l0 c0) (nmK b (ks.take i)) rfl (HS.out.1.kept (show Same wr _ from ((Kept.refl _ _).drewN _).alloc _) (fun _ _ f => f)) ⟨wr.heap.size, 0, none⟩ 1 1 [y.2] rfl rfl (cellsAt_new _ _ _) (by have := HSZ.out; simp; omega) (by have := HSZ.out; simp; omega) ?_)
        all_goals
          intro v5 w5 hr5 hg5
          obtain ⟨a5, c5, hv5, _⟩ := hr5.shape
          subst hv5
          have hk5 : Kept (fun k => (Value.slice a0 l0 c0).ownBlock = some k) wr w5 := Kept.trans (F := fun _ => False) (show Same wr _ from ((Kept.refl _ wr).drewN _).alloc _) ((Kept.refl _ _).grown hg5 (fun k e => .inl e)) (fun _ _ f => False.elim f) (fun _ _ e => e)
          have HF : Hid (RowE w1.heap.size 9 nmV w5 (.slice a5 (nmK b (ks.take i) ++ [y.2]).length c5) (nmK b (ks.take (i + 1))) ∧ Same w1 w5) := hid ⟨by rw [HN.out]; exact hr5, Kept.trans HS.out.2 hk5 (fun _ _ f => f) (fun k hk e => by have := HS.out.1.ge e; omega)⟩
          obtain ⟨Ln, hLn⟩ : ∃ x, x = (nmK b (ks.take i) ++ [y.2]).length := ⟨_, rfl⟩
          rw [← hLn] at HF ⊢
          clear hr5 hg5 hk5 hLn k0 k1 k2 b0 b1
          go_wp2_with fail
          go_roundg (gk - 1)
        all_goals first
          | (case measure => omega)
          | skip
        all_goals exact ⟨i + 1, a5, Ln, c5, by omega, by omega, rfl, by go_num, HF⟩
      · have HN : Hid (nmK b (ks.take (i + 1)) = nmK b (ks.take i)) := hid (by rw [HSU.out, if_neg (fun e => hm (by rw [e]; exact ⟨rfl, rfl⟩))])
        obtain ⟨d1, e1⟩ : ∃ q, q = decide (y.1.tn = b.tn) := ⟨_, rfl⟩
        obtain ⟨d2, e2⟩ : ∃ q, q = decide (y.1.ar = b.ar) := ⟨_, rfl⟩
        rw [← e1] at s1
        rw [← e2] at s2
        have hd : ¬ (d1 = true ∧ d2 = true) := fun e => hm ⟨of_decide_eq_true (e1.symm.trans e.1), of_decide_eq_true (e2.symm.trans e.2)⟩
        have hf := (three12 d1 d2).resolve_right hd
        clear e1 e2 hm hd HSU
        rcases hf with rfl | ⟨rfl, rfl⟩
        all_goals
          go_wp2_with fail
          go_quiet (fail)
          all_goals go_wp2_with fail
          all_goals go_roundg (gk - 1)
          all_goals first
            | (case measure => omega)
            | skip
          all_goals exact ⟨i + 1, a0, l0, c0, by omega, by omega, rfl, by go_num, hid ⟨by rw [HN.out]; exact HS.out.1.kept (show Same _ _ from (Kept.refl _ _).drewN _) (fun _ _ f => f), HS.out.2.drewN _⟩⟩
    · have hli : decide (i < kl) = false := decide_eq_false hlt
      have HE : Hid (nmK b (ks.take i) = nmK b ks) := hid (by rw [List.take_of_length_le (by have := HI.out.2.2.2.1; omega)])
      go_wp2_with fail
      go_ret
      refine ⟨_, nmK b ks, rfl, by rw [← HE.out]; exact HS.out.1.base HI.out.2.2.1.size, nmK_ris b HI.out.2.1.ris, fun n => ?_, by have := nmK_len b ks; have := HI.out.2.2.2.1; have := HI.out.2.2.2.2.1; omega, HI.out.2.2.1.trans HS.out.2⟩
      rw [nmK_mem, HI.out.2.1.all]

end Go.Proofs.Ythignkloecfcbaa

/-
  Layer 12, the reference: Dump.
-/
namespace Go.Proofs.Ythignkloecfcbaa
open Go.RowKit Go.Maps Go.Sort

/-- What the first keys say. -/
def visK (ks : List Ky) (g : Bx → Nm → ByteArray) : Bx → Nm → Option ByteArray := fun b n => if (b, n) ∈ ks then some (g b n) else none

theorem visK_succ (ks : List Ky) (g : Bx → Nm → ByteArray) (i : Nat) (hi : i < ks.length) : visK (ks.take (i + 1)) g = vis1 (visK (ks.take i) g) ks[i].1 ks[i].2 (g ks[i].1 ks[i].2) := by
  funext b n
  unfold visK vis1
  rw [List.take_succ_eq_append_getElem hi]
  by_cases e : b = ks[i].1 ∧ n = ks[i].2
  · rw [if_pos e, if_pos (List.mem_append.2 (.inr (List.mem_singleton.2 (Prod.ext e.1 e.2)))), e.1, e.2]
  · rw [if_neg e]
    show _ = (if (b, n) ∈ ks.take i then some (g b n) else none)
    by_cases e2 : (b, n) ∈ ks.take i
    · rw [if_pos e2, if_pos (List.mem_append.2 (.inl e2))]
    · rw [if_neg e2, if_neg (fun e3 => by
        rcases List.mem_append.1 e3 with e3 | e3
        · exact e2 e3
        · have := List.mem_singleton.1 e3
          exact e ⟨congrArg Prod.fst this, congrArg Prod.snd this⟩)]

theorem visK_lt {ks : List Ky} (h : ks.Pairwise ltK12) (g : Bx → Nm → ByteArray) (i : Nat) (hi : i < ks.length) : ∀ b' n', visK (ks.take i) g b' n' ≠ none → ltB b' ks[i].1 ∨ (b' = ks[i].1 ∧ bysN n' < bysN ks[i].2) := fun b' n' hv => by
  have hm : (b', n') ∈ ks.take i := by
    unfold visK at hv
    by_cases e : (b', n') ∈ ks.take i
    · exact e
    · rw [if_neg e] at hv; exact absurd rfl hv
  obtain ⟨j, hj, e⟩ := List.getElem_of_mem hm
  rw [List.length_take] at hj
  rw [List.getElem_take] at e
  have h1 := List.pairwise_iff_getElem.1 h j i (by omega) hi (by omega)
  rw [e] at h1
  exact ltK12_split h1

/-- Is an archive a new one behind these? -/
def newA (As : List Ad) (b : Bx) : Bool := match As.getLast? with
  | none => true
  | some x => !decide (x.b = b)

theorem newA_nil (b : Bx) : newA [] b = true := rfl
theorem newA_last (As : List Ad) (b : Bx) (m : Nat) (hm : As.length = m + 1) : newA As b = !decide ((As[m]'(by omega)).b = b) := by
  unfold newA
  have hne : As ≠ [] := fun e => by rw [e] at hm; simp at hm
  rw [List.getLast?_eq_some_getLast hne, List.getLast_eq_getElem]
  simp only [hm, Nat.add_sub_cancel]

/-- A dump of which the last archive has an entry more. -/
theorem DmAt.entry {B : Nat} {w w' : World} {g n cap : Nat} {As : List Ad} {x : Ad} {a' : Option Addr} {n' c' : Nat} {e : Ent} (h : DmAt B w (.slice (some ⟨g, 0, none⟩) n cap) (As ++ [x])) (hr : RowC B 58 2 enE2 w' (.slice a' n' c') (x.es ++ [e])) (hk : Kept (fun k => (adV x).ownBlock = some k) w w') (hb : ∀ j, (Value.slice a' n' c').ownBlock = some j → (adV x).ownBlock = some j ∨ w.heap.size ≤ j) :
    DmAt B (w'.setCell ⟨g, As.length * 3 + 2, none⟩ (.slice a' n' c')) (.slice (some ⟨g, 0, none⟩) n cap) (As ++ [⟨x.b, a', n', c', x.es ++ [e]⟩]) := by
  have hx : x ∈ As ++ [x] := List.mem_append.2 (.inr (List.mem_singleton.2 rfl))
  have hgx : ∀ y ∈ As ++ [x], ∀ j, (adV y).ownBlock = some j → j ≠ g := fun y hy j e1 e2 => rows_apart (h.ent y hy) h.row (by decide) j e1 (by rw [e2]; rfl)
  have hrow : RowC B 55 3 adE w' (.slice (some ⟨g, 0, none⟩) n cap) (As ++ [x]) := h.row.kept hk (fun k e1 e2 => hgx x hx k e2 (by simpa [Value.ownBlock] using e1.symm))
  have hset := hrow.setAd As.length ⟨x.b, a', n', c', x.es ++ [e]⟩ (by simp) (by simp)
  have es : (As ++ [x]).set As.length ⟨x.b, a', n', c', x.es ++ [e]⟩ = As ++ [⟨x.b, a', n', c', x.es ++ [e]⟩] := by rw [List.set_append_right _ _ (Nat.le_refl _), Nat.sub_self, List.set_cons_zero]
  rw [es] at hset
  have hgl : g < w.heap.size := h.row.lt (j := g) rfl
  have hks : Kept (· = g) w' (w'.setCell ⟨g, As.length * 3 + 2, none⟩ (.slice a' n' c')) := (Kept.refl (· = g) w').setCell _ _ (.inl rfl)
  have hap := List.pairwise_append.1 h.apt
  refine ⟨hset, fun y hy => ?_, List.pairwise_append.2 ⟨hap.1, List.pairwise_singleton _ _, fun y hy z hz k e1 e2 => ?_⟩⟩
  · rcases List.mem_append.1 hy with e1 | e1
    · have hy2 : y ∈ As ++ [x] := List.mem_append.2 (.inl e1)
      exact ((h.ent y hy2).kept hk (fun k e2 e3 => hap.2.2 y e1 x (List.mem_singleton.2 rfl) k e2 e3)).kept hks (fun k e2 => hgx y hy2 k e2)
    · rw [List.mem_singleton.1 e1]
      refine hr.kept hks (fun k e2 e3 => ?_)
      rcases hb k e2 with q | q
      · exact hgx x hx k q e3
      · omega
  · rw [List.mem_singleton.1 hz] at e2
    have hy2 : y ∈ As ++ [x] := List.mem_append.2 (.inl hy)
    rcases hb k e2 with q | q
    · exact hap.2.2 y hy x (List.mem_singleton.2 rfl) k e1 q
    · have := (h.ent y hy2).lt e1
      omega

/-- A dump with an archive more, without entries yet. -/
theorem DmAt.arch {B : Nat} {w w' : World} {v v' : Value} {As : List Ad} {b : Bx} (h : DmAt B w v As) (hr : RowC B 55 3 adE w' v' (As ++ [⟨b, none, 0, 0, []⟩])) (hk : Kept (fun k => v.ownBlock = some k) w w') : DmAt B w' v' (As ++ [⟨b, none, 0, 0, []⟩]) := by
  refine ⟨hr, fun y hy => ?_, List.pairwise_append.2 ⟨h.apt, List.pairwise_singleton _ _, fun y hy z hz k e1 e2 => ?_⟩⟩
  · rcases List.mem_append.1 hy with e1 | e1
    · exact (h.ent y e1).kept hk (fun k e2 => rows_apart (h.ent y e1) h.row (by decide) k e2)
    · rw [List.mem_singleton.1 e1]; exact RowC.nil
  · rw [List.mem_singleton.1 hz] at e2
    cases e2

/-- The dump ahead of an entry: its archive is the last one. -/
def DmL (B : Nat) (w : World) (v : Value) (As : List Ad) (b : Bx) (As' : List Ad) (x : Ad) : Prop := DmAt B w v (As' ++ [x]) ∧ x.b = b ∧ ((As = As' ++ [x]) ∨ (As = As' ∧ x.es = [] ∧ ∀ D0 y, adD As = D0 ++ [y] → ¬ y.1 = b))

theorem DmL.dm {B : Nat} {w : World} {v : Value} {As As' : List Ad} {b : Bx} {x : Ad} (h : DmL B w v As b As' x) {vis : Bx → Nm → Option ByteArray} (hd : IsDm vis (adD As)) {n : Nm} {d : ByteArray} (hlt : ∀ b' n', vis b' n' ≠ none → ltB b' b ∨ (b' = b ∧ bysN n' < bysN n)) (a' : Option Addr) (n' c' : Nat) : IsDm (vis1 vis b n d) (adD (As' ++ [⟨x.b, a', n', c', x.es ++ [(n, d)]⟩])) := by
  obtain ⟨_, hb, h3⟩ := h
  have hD : adD (As' ++ [⟨x.b, a', n', c', x.es ++ [(n, d)]⟩]) = adD As' ++ [(b, x.es ++ [(n, d)])] := by unfold adD; rw [List.map_append, ← hb]; rfl
  rw [hD]
  rcases h3 with e | ⟨e1, e2, e3⟩
  · have hD2 : adD As = adD As' ++ [(b, x.es)] := by rw [e]; unfold adD; rw [List.map_append, ← hb]; rfl
    rw [hD2] at hd
    exact hd.old hlt
  · rw [e2, ← e1]
    exact hd.fresh hlt e3

theorem newA_no {As : List Ad} {b : Bx} (h : newA As b = true) : ∀ D0 y, adD As = D0 ++ [y] → ¬ y.1 = b := fun D0 y e e2 => by
  unfold newA at h
  have hl : (adD As).getLast? = some y := by rw [e]; simp
  unfold adD at hl
  rw [List.getLast?_map] at hl
  cases hg : As.getLast? with
  | none => rw [hg] at hl; cases hl
  | some x =>
    rw [hg] at hl h
    simp only [Option.map_some, Option.some.injEq] at hl
    subst hl
    simp at h
    exact h e2

theorem newA_yes {As : List Ad} {b : Bx} (h : newA As b = false) : ∃ As' x, As = As' ++ [x] ∧ x.b = b := by
  unfold newA at h
  cases hg : As.getLast? with
  | none => rw [hg] at h; cases h
  | some x =>
    rw [hg] at h
    simp at h
    have hne : As ≠ [] := fun e => by rw [e] at hg; cases hg
    refine ⟨As.dropLast, x, ?_, h⟩
    rw [List.getLast?_eq_some_getLast hne] at hg
    injection hg with hg
    rw [← hg, List.dropLast_concat_getLast]

end Go.Proofs.Ythignkloecfcbaa

/-
  Layer 12, the reference: Dump, walked.
-/
namespace Go.Proofs.Ythignkloecfcbaa
open Go.RowKit Go.Maps Go.Sort

set_option maxRecDepth 100000 in
set_option maxHeartbeats 8000000 in
theorem rdump_any {N : Nat} {w : World} {p : Nat} {L : List Lv} {now floor : Int} {v : Value} (h : Rc N w p L now floor v) (t : Int) (hr : ∀ b n, RisV (ofK L b n)) (hg : ∀ b n, ∀ x ∈ ofK L b n, x.there = false → x.data = ⟨#[]⟩) : Calls Try.prog 31 #[.pointer (some ⟨p, 0, none⟩), .int .i64 t] w fun e w' => DumA w (visF (ofK L) (max t floor)) e w' := by
  obtain ⟨T, hT⟩ : ∃ T, T = max t floor := ⟨_, rfl⟩
  rw [← hT]
  have HKY := rkeys_any h t hr hg
  rw [← hT] at HKY
  obtain ⟨G, hG⟩ : ∃ G : Bx → Nm → ByteArray, G = fun b n => (newV (ofK L b n) T).data := ⟨_, rfl⟩
  have HGT : Hid (∀ w' b n, Same w w' → Calls Try.prog 27 #[.pointer (some ⟨p, 0, none⟩), .agg #[.string b.tn, .string b.ar, .string n.s], .int .i64 t] w' fun e w2 => ∃ th, e = .returned (.tuple #[.string (G b n), .bool th]) ∧ Same w' w2) := hid (fun w' b n hk => (rget_any (h.same hk) b n t (hr b n) (hg b n)).mono (fun e w2 h9 => ⟨_, by rw [hG, hT]; exact h9.1, h9.2⟩))
  have HLL : Hid (L.length ≤ 100000) := hid h.len
  have HGG : Hid (G = fun b n => (newV (ofK L b n) T).data) := hG
  clear h hr hg hT hG
  go_enter Try.func31, Try.ntmps31
  go_wp2_with fail
  refine HKY.mono ?_
  rintro e w1 ⟨v, ks, rfl, hrow, hki, hk1⟩
  clear HKY
  obtain ⟨ka, kc, hv, hgs, _⟩ := hrow.shape
  obtain ⟨kl, hkl⟩ : ∃ n, n = ks.length := ⟨_, rfl⟩
  rw [← hkl] at hv
  subst hv
  have HI : Hid (RowC w.heap.size 36 3 kyE w1 (.slice ka kl kc) ks ∧ KyI L T L.length ks ∧ Same w w1 ∧ kl = ks.length ∧ kl ≤ 100000 ∧ (ks ≠ [] → ∃ g, ka = some ⟨g, 0, none⟩)) := hid ⟨hrow, hki, hk1, hkl, by have := hki.len; have := HLL.out; omega, hgs⟩
  clear hrow hki hk1 hgs hkl
  go_wp2_with fail
  go_loopg [5, 7] kl (fun q z5 z7 wr => ∃ (i : Nat) (As : List Ad) (a0 : Option Addr) (l0 c0 : Nat), kl - i ≤ q ∧ i ≤ kl ∧ z5 = .slice a0 l0 c0 ∧ z7 = .int .i64 (i : Nat) ∧ Hid (DmAt w1.heap.size wr (.slice a0 l0 c0) As ∧ IsDm (visK (ks.take i) G) (adD As) ∧ As.length ≤ i ∧ (∀ x ∈ As, x.es.length ≤ i) ∧ Same w1 wr))
  case atStart => exact ⟨0, [], none, 0, 0, by omega, by omega, rfl, rfl, hid ⟨⟨RowC.nil, fun x hx => (by cases hx), List.Pairwise.nil⟩, by
      have e9 : visK (ks.take 0) G = fun _ _ => none := by funext b n; unfold visK; rw [List.take_zero, if_neg (by simp)]
      rw [e9]; exact IsDm.nil, by simp, fun x hx => (by cases hx), Kept.refl _ _⟩⟩
  case round =>
    obtain ⟨i, As, a0, l0, c0, hq, hil, rfl, rfl, HS⟩ := hrel
    by_cases hlt : i < kl
    · have hli : decide (i < kl) = true := decide_eq_true hlt
      have hli2 : (i : Int) < (kl : Int) := by omega
      have hlt2 : i < ks.length := by have := HI.out.2.2.2.1; omega
      obtain ⟨g, hg⟩ := HI.out.2.2.2.2.2 (fun e => by rw [e] at hlt2; simp at hlt2)
      subst hg
      obtain ⟨y, hy⟩ : ∃ y, y = ks[i] := ⟨_, rfl⟩
      obtain ⟨b, n⟩ := y
      have HCW : Hid (∀ w', Same w1 w' → w'.cell? ⟨g, i * 3, none⟩ = some (.string b.tn) ∧ w'.cell? ⟨g, i * 3 + 1, none⟩ = some (.string b.ar) ∧ w'.cell? ⟨g, i * 3 + 2, none⟩ = some (.string n.s)) := hid (fun w' hk => by
        have hcw : ∀ q u, q < 3 → (kyE (b, n))[q]? = some u → w'.cell? ⟨g, i * 3 + q, none⟩ = some u := fun q u hq e => by rw [RowC.cell kyE_ok (HI.out.1.kept hk (fun _ _ f => f)) i q hlt2 hq, ← hy, e]
        exact ⟨hcw 0 _ (by decide) rfl, hcw 1 _ (by decide) rfl, hcw 2 _ (by decide) rfl⟩)
      have hiw : IntKind.i64.wrap ((i : Int) + 1) = ((i + 1 : Nat) : Int) := by have := HI.out.2.2.2.2.1; rw [IntKind.wrap_i64]; omega
      have HVS : Hid (visK (ks.take (i + 1)) G = vis1 (visK (ks.take i) G) b n (G b n) ∧ ∀ b' n', visK (ks.take i) G b' n' ≠ none → ltB b' b ∨ (b' = b ∧ bysN n' < bysN n)) := hid (by
        have h1 := visK_succ ks G i hlt2
        have h2 := visK_lt HI.out.2.1.ris G i hlt2
        rw [← hy] at h1 h2
        exact ⟨h1, h2⟩)
      have hl0 : l0 = As.length := by
        obtain ⟨a9, c9, hv9, _⟩ := HS.out.1.row.shape
        injection hv9
      have HL0 : Hid (l0 = As.length ∧ l0 ≤ 99999) := hid ⟨hl0, by have := HS.out.2.2.1; have := HI.out.2.2.2.2.1; omega⟩
      obtain ⟨k0, k1, k2⟩ := HCW.out wr HS.out.2.2.2.2
      clear hy hl0
      go_upto_region 7 with fail
      go_cut [51] from 14 to 97 (fun z wx => z = .bool (newA As b) ∧ Hid (Same wr wx))
      case first =>
        by_cases hz : l0 = 0
        · have be : ((l0 : Int) == 0) = true := by rw [hz]; rfl
          have HE : Hid (newA As b = true) := hid (by rw [List.eq_nil_of_length_eq_zero (HL0.out.1.symm.trans hz)]; exact newA_nil b)
          clear hz
          go_quiet (fail)
          go_wp2_with fail
          go_meet
          exact ⟨by rw [HE.out], hid ((Kept.refl _ _).drewN _)⟩
        · obtain ⟨m, hm⟩ : ∃ m, l0 = m + 1 := ⟨l0 - 1, by omega⟩
          have hmA : m < As.length := by have := HL0.out.1; omega
          obtain ⟨ga, hga⟩ : ∃ g, a0 = some ⟨g, 0, none⟩ := by
            obtain ⟨a9, c9, hv9, hg9, _⟩ := HS.out.1.row.shape
            injection hv9 with e9 _ _
            obtain ⟨g, e8⟩ := hg9 (fun e => by rw [e] at hmA; simp at hmA)
            exact ⟨g, by rw [e9, e8]⟩
          subst hga
          obtain ⟨x, hx⟩ : ∃ x, x = As[m] := ⟨_, rfl⟩
          have hxr : ∀ q u, q < 3 → (adE x)[q]? = some u → wr.cell? ⟨ga, m * 3 + q, none⟩ = some u := fun q u hq e => by rw [RowC.cell adE_ok HS.out.1.row m q hmA hq, ← hx, e]
          have x0 := hxr 0 (.string x.b.tn) (by decide) rfl
          have x1 := hxr 1 (.string x.b.ar) (by decide) rfl
          rw [Nat.add_zero] at x0
          have be : ((l0 : Int) == 0) = false := by simp; omega
          have iw0 : (l0 : Int) - 1 = (m : Int) := by omega
          have iw : IntKind.i64.wrap (m : Int) = (m : Int) := by have := HL0.out.2; rw [IntKind.wrap_i64]; omega
          have ib : (m : Int) < (l0 : Int) := by omega
          have HNA : Hid (newA As b = !decide (x.b = b)) := hid (by rw [newA_last As b m (by have := HL0.out.1; omega), ← hx])
          have s1 := streq12 x.b.tn b.tn
          have s2 := streq12 x.b.ar b.ar
          obtain ⟨d1, e1⟩ : ∃ q, q = decide (x.b.tn = b.tn) := ⟨_, rfl⟩
          obtain ⟨d2, e2⟩ : ∃ q, q = decide (x.b.ar = b.ar) := ⟨_, rfl⟩
          have HNB : Hid (newA As b = !(d1 && d2)) := hid (by
            rw [HNA.out, e1, e2, ← Bool.decide_and]
            exact congrArg (!·) (decide_eq_decide.2 ⟨fun e => by rw [e]; exact ⟨rfl, rfl⟩, fun e => Bx.ext' e.1 e.2⟩))
          rw [← e1] at s1
          rw [← e2] at s2
          clear e1 e2 hx hxr hz HNA hm
          rcases three12 d1 d2 with (rfl | ⟨rfl, rfl⟩) | ⟨rfl, rfl⟩
          all_goals
            go_quiet (fail)
            go_wp2_with fail
            go_meet
            exact ⟨by rw [HNB.out]; rfl, hid ((Kept.refl _ _).drewN _)⟩
      case rest =>
        obtain ⟨rfl, HX⟩ := hcut
        clear k0 k1 k2
        have HSX : Hid (DmAt w1.heap.size wc (.slice a0 l0 c0) As ∧ Same w1 wc) := hid ⟨HS.out.1.same HX.out, HS.out.2.2.2.2.trans HX.out⟩
        have HSZ : Hid (w1.heap.size ≤ wc.heap.size) := hid HSX.out.2.size
        obtain ⟨k0, k1, k2⟩ := HCW.out wc HSX.out.2
        obtain ⟨nb, hnb⟩ : ∃ q, q = newA As b := ⟨_, rfl⟩
        rw [← hnb]
        have HNB : Hid (nb = newA As b) := hnb
        clear hnb
        go_upto_if 51 with fail
        go_cut [5, 8] from 14 to 97 (fun z5 z8 wx => ∃ (As' : List Ad) (x : Ad) (a5 : Option Addr) (m5 c5 : Nat), z5 = .slice a5 (m5 + 1) c5 ∧ z8 = .int .i64 ((m5 + 1 : Nat) : Int) ∧ Hid (DmL w1.heap.size wx (.slice a5 (m5 + 1) c5) As b As' x ∧ m5 = As'.length ∧ Same w1 wx ∧ As'.length ≤ i))
        case first =>
          cases nb with
          | false =>
            obtain ⟨As', x, hAs, hxb⟩ := newA_yes HNB.out.symm
            have hl9 : l0 = As'.length + 1 := by rw [HL0.out.1, hAs, List.length_append]; rfl
            subst hl9
            go_wp2_with fail
            go_meet
            exact ⟨As', x, a0, As'.length, c0, rfl, rfl, hid ⟨⟨by rw [← hAs]; exact HSX.out.1, hxb, .inl hAs⟩, rfl, HSX.out.2, by have h1 := HS.out.2.2.1; rw [hAs, List.length_append] at h1; simp at h1; omega⟩⟩
          | true =>
            have HNO := hid (newA_no HNB.out.symm)
            go_upto_region 8 with fail
            have hs0 : Same wc wc := Kept.refl _ _
            have hsA : Same wc (wc.alloc (.cells #[.string b.tn, .string b.ar, .slice none 0 0] 55)) := (Kept.refl _ _).alloc _
            go_region_law (first
              | (refine step_appendC adE 3 adE_ok w1.heap.size 43 55 (.agg #[.string ⟨#[]⟩, .string ⟨#[]⟩, .slice none 0 0]) 56 Try.underlying43 Try.infoArc rfl (by decide) (by rfl) (.tmp 52) (.tmp 64) (by rfl) (.slice a0 l0 c0) As (by rfl) (HSX.out.1.row.kept (show Same wc _ from by first | exact hs0.alloc _ | exact (hs0.drew).alloc _ | exact (hs0.alloc _).drew) (fun _ _ f => f)) _ 1 1 [(⟨b, none, 0, 0, []⟩ : Ad)] (by rfl) (by rfl) (cellsAt_ad _ ⟨b, none, 0, 0, []⟩) (by have := HL0.out; simp; omega) (by have := HSZ.out; simp; omega) ?_; intro v9 w9 hr9 hg9 hb9; have hk9 : Kept (fun k => (Value.slice a0 l0 c0).ownBlock = some k) wc w9 := Kept.trans (F := fun _ => False) (show Same wc _ from by first | exact hs0.alloc _ | exact (hs0.drew).alloc _ | exact (hs0.alloc _).drew) ((Kept.refl _ _).grown hg9 (fun k e => .inl e)) (fun _ _ f => False.elim f) (fun _ _ e => e); obtain ⟨a9, n9, q9, e9⟩ : ∃ a n q, v9 = Value.slice a n q := (by obtain ⟨a, q, e, _⟩ := hr9.shape; exact ⟨a, _, q, e⟩); subst e9; clear hg9 hb9))
            all_goals
              have hn9 : n9 = l0 + 1 := by
                obtain ⟨a8, c8, hv8, _⟩ := hr9.shape
                injection hv8 with _ e8 _
                rw [e8, List.length_append, HL0.out.1]; rfl
              subst hn9
              have HF9 : Hid (DmL w1.heap.size w9 (.slice a9 (l0 + 1) q9) As b As ⟨b, none, 0, 0, []⟩ ∧ Same w1 w9) := hid ⟨⟨HSX.out.1.arch hr9 hk9, rfl, .inr ⟨rfl, rfl, HNO.out⟩⟩, Kept.trans HSX.out.2 hk9 (fun _ _ f => f) (fun k hk e => by have := HSX.out.1.row.ge e; omega)⟩
              clear hr9 hk9
              have iwn : IntKind.i64.wrap ((l0 : Int) + 1) = ((l0 + 1 : Nat) : Int) := by have := HL0.out.2; rw [IntKind.wrap_i64]; omega
              go_wp2_with fail
              go_meet
            all_goals exact ⟨As, ⟨b, none, 0, 0, []⟩, a9, l0, q9, rfl, by go_num, hid ⟨by first | exact HF9.out.1 | exact ⟨HF9.out.1.1.same ((Kept.refl _ _).drew), HF9.out.1.2⟩, HL0.out.1, by first | exact HF9.out.2 | exact HF9.out.2.drew, HS.out.2.2.1⟩⟩
        case rest =>
          obtain ⟨As', x, a5, m5, c5, rfl, rfl, HD⟩ := hcut
          clear k0 k1 k2
          obtain ⟨k0, k1, k2⟩ := HCW.out wc HD.out.2.2.1
          obtain ⟨d, hd⟩ : ∃ d, d = G b n := ⟨_, rfl⟩
          have HDD : Hid (d = G b n) := hd
          have HGE := HGT.out wc b n (HI.out.2.2.1.trans HD.out.2.2.1)
          rw [← hd] at HGE
          clear hd
          go_wp2_with fail
          refine HGE.mono ?_
          rintro e wq ⟨th, rfl, hkq⟩
          obtain ⟨g5, hg5⟩ : ∃ g, a5 = some ⟨g, 0, none⟩ := by
            obtain ⟨a9, c9, hv9, hg9, _⟩ := HD.out.1.1.row.shape
            injection hv9 with e9 _ _
            obtain ⟨g, e8⟩ := hg9 (by simp)
            exact ⟨g, by rw [e9, e8]⟩
          subst hg5
          have HQ : Hid (DmL w1.heap.size wq (.slice (some ⟨g5, 0, none⟩) (m5 + 1) c5) As b As' x ∧ Same w1 wq ∧ m5 = As'.length ∧ As'.length ≤ i) := hid ⟨⟨HD.out.1.1.same hkq, HD.out.1.2⟩, HD.out.2.2.1.trans hkq, HD.out.2.1, HD.out.2.2.2⟩
          have hxm : m5 < (As' ++ [x]).length := by rw [HQ.out.2.2.1]; simp
          have hx9 : (As' ++ [x])[m5] = x := by simp [HQ.out.2.2.1]
          have x2 : wq.cell? ⟨g5, m5 * 3 + 2, none⟩ = some (.slice x.a x.n x.c) := by rw [RowC.cell adE_ok HQ.out.1.1.row m5 2 hxm (by decide), hx9]; rfl
          have HXS : Hid (x.es.length ≤ i ∧ w1.heap.size ≤ wq.heap.size ∧ i ≤ 100000) := hid ⟨by
            rcases HQ.out.1.2.2 with e | ⟨_, e, _⟩
            · exact HS.out.2.2.2.1 x (by rw [e]; exact List.mem_append.2 (.inr (List.mem_singleton.2 rfl)))
            · rw [e]; exact Nat.zero_le _, HQ.out.2.1.size, by have := HI.out.2.2.2.2.1; omega⟩
          have HXR : Hid (RowC w1.heap.size 58 2 enE2 wq (.slice x.a x.n x.c) x.es) := hid (HQ.out.1.1.ent x (List.mem_append.2 (.inr (List.mem_singleton.2 rfl))))
          have HXO : Hid (∀ w9, Kept (fun k => (Value.slice x.a x.n x.c).ownBlock = some k) wq w9 → w9.frozen? ⟨g5, m5 * 3 + 2, none⟩ = false ∧ w9.cell? ⟨g5, m5 * 3 + 2, none⟩ = some (.slice x.a x.n x.c)) := hid (fun w9 hk => by
            have h9 := HQ.out.1.1.row.kept hk (fun k e1 e2 => rows_apart HXR.out HQ.out.1.1.row (by decide) k e2 e1)
            exact ⟨h9.frozen (m5 * 3 + 2), by rw [RowC.cell adE_ok h9 m5 2 hxm (by decide), hx9]; rfl⟩)
          clear HGE k0 k1 k2 hxm hx9 hkq
          obtain ⟨k0, k1, k2⟩ := HCW.out wq HQ.out.2.1
          have iw0 : ((m5 + 1 : Nat) : Int) - 1 = (m5 : Int) := by omega
          have iw : IntKind.i64.wrap (m5 : Int) = (m5 : Int) := by have := HQ.out; have := HXS.out; rw [IntKind.wrap_i64]; omega
          have ib : (m5 : Int) < ((m5 + 1 : Nat) : Int) := by omega
          have iw1 : ((m5 : Int) + 1) - 1 = (m5 : Int) := by omega
          have ib1 : (m5 : Int) < (m5 : Int) + 1 := by omega
          go_upto_region 11 with fail
          have hs0 : Same wq wq := Kept.refl _ _
          have hsA : Same wq (wq.alloc (.cells #[.string n.s, .string d] 58)) := (Kept.refl _ _).alloc _
          have x2a := hsA.cell x2 (fun f => f)
          clear hsA
          go_region_law (first
            | (refine step_appendC enE2 2 enE2_ok w1.heap.size 53 58 (.agg #[.string ⟨#[]⟩, .string ⟨#[]⟩]) 32 Try.underlying53 Try.infoEnt rfl (by decide) (by rfl) (.tmp 86) (.tmp 94) (by rfl) (.slice x.a x.n x.c) x.es (by rfl) (HXR.out.kept (show Same wq _ from by first | exact hs0.alloc _ | exact (hs0.drew).alloc _ | exact (hs0.alloc _).drew) (fun _ _ f => f)) _ 1 1 [((n, d) : Ent)] (by rfl) (by rfl) (cellsAt_ent _ (n, d)) (by have := HXS.out; simp; omega) (by have := HXS.out; simp; omega) ?_; intro v9 w9 hr9 hg9 hb9; have hk9 : Kept (fun k => (Value.slice x.a x.n x.c).ownBlock = some k) wq w9 := Kept.trans (F := fun _ => False) (show Same wq _ from by first | exact hs0.alloc _ | exact (hs0.drew).alloc _ | exact (hs0.alloc _).drew) ((Kept.refl _ _).grown hg9 (fun k e => .inl e)) (fun _ _ f => False.elim f) (fun _ _ e => e); have hb9' : ∀ j, v9.ownBlock = some j → (Value.slice x.a x.n x.c).ownBlock = some j ∨ wq.heap.size ≤ j := (fun j e => (hb9 j e).imp id (fun h => by (try simp at h); omega)); obtain ⟨z9, d9⟩ := HXO.out w9 hk9; obtain ⟨a9, n9, q9, e9⟩ : ∃ a n q, v9 = Value.slice a n q := (by obtain ⟨a, q, e, _⟩ := hr9.shape; exact ⟨a, _, q, e⟩); subst e9; clear hg9 hb9))
          all_goals
            have HF9 : Hid (DmAt w1.heap.size (w9.setCell ⟨g5, m5 * 3 + 2, none⟩ (.slice a9 n9 q9)) (.slice (some ⟨g5, 0, none⟩) (m5 + 1) c5) (As' ++ [⟨x.b, a9, n9, q9, x.es ++ [(n, d)]⟩]) ∧ Same w1 (w9.setCell ⟨g5, m5 * 3 + 2, none⟩ (.slice a9 n9 q9))) := hid (by
              have h9 := HQ.out.1.1.entry hr9 hk9 hb9'
              rw [← HQ.out.2.2.1] at h9
              refine ⟨h9, Kept.trans (Kept.trans HQ.out.2.1 hk9 (fun _ _ f => f) (fun k hk e => by have := HXR.out.ge e; omega)) ((Kept.refl (· = g5) w9).setCell _ _ (.inl rfl)) (fun _ _ f => f) (fun k hk e => by have := HQ.out.1.1.row.ge (j := g5) rfl; omega)⟩)
            have HFD : Hid (IsDm (visK (ks.take (i + 1)) G) (adD (As' ++ [⟨x.b, a9, n9, q9, x.es ++ [(n, d)]⟩]))) := hid (by
              rw [HVS.out.1, HDD.out]
              exact HQ.out.1.dm HS.out.2.1 HVS.out.2 a9 n9 q9)
            have HFL : Hid ((As' ++ [(⟨x.b, a9, n9, q9, x.es ++ [(n, d)]⟩ : Ad)]).length ≤ i + 1 ∧ ∀ z ∈ As' ++ [(⟨x.b, a9, n9, q9, x.es ++ [(n, d)]⟩ : Ad)], z.es.length ≤ i + 1) := hid ⟨by rw [List.length_append]; have := HQ.out.2.2.2; simp; omega, fun z hz => by
              rcases List.mem_append.1 hz with e | e
              · have h8 : z ∈ As := by
                  rcases HQ.out.1.2.2 with e9 | ⟨e9, _⟩
                  · rw [e9]; exact List.mem_append.2 (.inl e)
                  · rw [e9]; exact e
                exact Nat.le_succ_of_le (HS.out.2.2.2.1 z h8)
              · rw [List.mem_singleton.1 e]
                show (x.es ++ [(n, d)]).length ≤ i + 1
                rw [List.length_append]; have := HXS.out.1; simp; omega⟩
            clear hr9 hk9 hb9'
            go_wp2_with fail
            go_roundg (gk - 1)
          all_goals first
            | (case measure => omega)
            | skip
          all_goals exact ⟨i + 1, _, _, _, _, by omega, by omega, rfl, by go_num, hid ⟨by first | exact HF9.out.1 | exact HF9.out.1.same ((Kept.refl _ _).drew), HFD.out, HFL.out.1, HFL.out.2, by first | exact HF9.out.2 | exact HF9.out.2.drew⟩⟩
    · have hli : decide (i < kl) = false := decide_eq_false hlt
      have HE : Hid (visK (ks.take i) G = visF (ofK L) T) := hid (by
        rw [List.take_of_length_le (by have := HI.out.2.2.2.1; omega)]
        funext b n
        unfold visK visF visV
        have h9 : (b, n) ∈ ks ↔ (newV (ofK L b n) T).there = true := HI.out.2.1.all (b, n)
        by_cases e : (b, n) ∈ ks
        · rw [if_pos e, if_pos (h9.1 e), HGG.out]
        · rw [if_neg e, if_neg (fun e2 => e (h9.2 e2))])
      have HF : Hid (DumA w (visF (ofK L) T) (.returned (.slice a0 l0 c0)) wr) := hid (by
        obtain ⟨h1, h2, h3, h4, h5⟩ := HS.out
        rw [HE.out] at h2
        have h6 := HI.out
        exact ⟨_, As, rfl, h1.base h6.2.2.1.size, h2, by omega, fun x hx => Nat.le_trans (h4 x hx) (by omega), h6.2.2.1.trans h5⟩)
      go_wp2_with fail
      go_ret
      exact HF.out

end Go.Proofs.Ythignkloecfcbaa
