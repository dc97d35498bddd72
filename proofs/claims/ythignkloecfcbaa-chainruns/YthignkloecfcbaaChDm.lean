/-
  Layer 12: Dump.
-/
import Derived.Test.YthignkloecfcbaaChY
import Derived.Test.YthignkloecfcbaaChZ
namespace Go.Proofs.Ythignkloecfcbaa
open Go.RowKit Go.Maps Go.Sort Go.Shelf

theorem strict_ext {α : Type} {R : α → α → Prop} (hi : ∀ a, ¬ R a a) (ht : ∀ a b c, R a b → R b c → R a c) : ∀ {l l' : List α}, l.Pairwise R → l'.Pairwise R → (∀ x, x ∈ l ↔ x ∈ l') → l = l'
  | [], [], _, _, _ => rfl
  | [], b :: r, _, _, h => absurd ((h b).2 (List.mem_cons_self ..)) (by simp)
  | a :: r, [], _, _, h => absurd ((h a).1 (List.mem_cons_self ..)) (by simp)
  | a :: r, b :: r', h1, h2, h => by
    rw [List.pairwise_cons] at h1 h2
    have hab : a = b := by
      rcases List.mem_cons.1 ((h a).1 (List.mem_cons_self ..)) with e | e
      · exact e
      · rcases List.mem_cons.1 ((h b).2 (List.mem_cons_self ..)) with e2 | e2
        · exact e2.symm
        · exact absurd (ht _ _ _ (h2.1 a e) (h1.1 b e2)) (hi _)
    subst hab
    congr 1
    refine strict_ext hi ht h1.2 h2.2 (fun x => ⟨fun hx => ?_, fun hx => ?_⟩)
    · rcases List.mem_cons.1 ((h x).1 (List.mem_cons_of_mem _ hx)) with e | e
      · subst e; exact absurd (h1.1 x hx) (hi _)
      · exact e
    · rcases List.mem_cons.1 ((h x).2 (List.mem_cons_of_mem _ hx)) with e | e
      · subst e; exact absurd (h2.1 x hx) (hi _)
      · exact e

abbrev Ent := Nm × ByteArray

/-- A dump says just what is seen. -/
structure IsDm (vis : Bx → Nm → Option ByteArray) (D : List (Bx × List Ent)) : Prop where
  ris : D.Pairwise (fun x y => ltB x.1 y.1)
  ne : ∀ x ∈ D, x.2 ≠ []
  ent : ∀ x ∈ D, x.2.Pairwise (fun p q => bysN p.1 < bysN q.1) ∧ ∀ n d, (n, d) ∈ x.2 ↔ vis x.1 n = some d
  all : ∀ b n, vis b n ≠ none → ∃ x ∈ D, x.1 = b

theorem IsDm.det {vis : Bx → Nm → Option ByteArray} {D D' : List (Bx × List Ent)} (h : IsDm vis D) (h' : IsDm vis D') : D = D' := by
  have half : ∀ {D D' : List (Bx × List Ent)}, IsDm vis D → IsDm vis D' → ∀ x ∈ D, x ∈ D' := fun {D D'} h h' x hx => by
    obtain ⟨b, es⟩ := x
    have hne := h.ne _ hx
    obtain ⟨⟨n, d⟩, hnd⟩ := List.exists_mem_of_ne_nil es hne
    have hv := ((h.ent _ hx).2 n d).1 hnd
    obtain ⟨⟨b', es'⟩, hx', hb⟩ := h'.all b n (by rw [hv]; simp)
    simp only at hb
    subst hb
    have : es = es' := strict_ext (R := fun (p q : Ent) => bysN p.1 < bysN q.1) (fun a => List.lt_irrefl _) (fun a b c => List.lt_trans) (h.ent _ hx).1 (h'.ent _ hx').1 (fun y => by
      obtain ⟨n, d⟩ := y
      rw [(h.ent _ hx).2, (h'.ent _ hx').2])
    rw [this]
    exact hx'
  exact strict_ext (R := fun (x y : Bx × List Ent) => ltB x.1 y.1) (fun a => ltB_irr _) (fun a b c => ltB_trans) h.ris h'.ris (fun x => ⟨half h h' x, half h' h x⟩)

/-- An archive of a dump, as it lies. -/
structure Ad where
  b : Bx
  a : Option Addr
  n : Nat
  c : Nat
  es : List Ent

def adV (x : Ad) : Value := .slice x.a x.n x.c
def adE (x : Ad) : List Value := [.string x.b.tn, .string x.b.ar, .slice x.a x.n x.c]
theorem adE_ok : EncOk adE 3 := ⟨fun _ => rfl, fun x u hu => by simp [adE] at hu; rcases hu with rfl | rfl | rfl <;> rfl, by decide⟩
theorem Try.infoArc : (Try.prog.info? 55).map (fun i => (i.zero, i.size, i.bytes)) = some (some (.agg #[.string ⟨#[]⟩, .string ⟨#[]⟩, .slice none 0 0]), 3, 56) := by kernel_rfl

theorem cellsAt_ad (w : World) (x : Ad) : CellsAt (w.alloc (.cells #[.string x.b.tn, .string x.b.ar, .slice x.a x.n x.c] 55)) ⟨w.heap.size, 0, none⟩ ([x].flatMap adE) := by
  intro j u hj
  match j, hj with
  | 0, hj => simp [adE] at hj; subst hj; simp [addAt]
  | 1, hj => simp [adE] at hj; subst hj; simp [addAt]
  | 2, hj => simp [adE] at hj; subst hj; simp [addAt]
  | j + 3, hj => simp [adE] at hj

/-- A dump in memory, new since the block B. -/
structure DmAt (B : Nat) (w : World) (v : Value) (As : List Ad) : Prop where
  row : RowC B 55 3 adE w v As
  ent : ∀ x ∈ As, RowC B 58 2 enE2 w (adV x) x.es
  apt : As.Pairwise (fun x y => ∀ k, (adV x).ownBlock = some k → ¬ (adV y).ownBlock = some k)

def adD (As : List Ad) : List (Bx × List Ent) := As.map (fun x => (x.b, x.es))

theorem DmAt.kept {B : Nat} {w w' : World} {v : Value} {As : List Ad} (h : DmAt B w v As) {F : Nat → Prop} (hk : Kept F w w') (h1 : ∀ k, v.ownBlock = some k → ¬ F k) (h2 : ∀ x ∈ As, ∀ k, (adV x).ownBlock = some k → ¬ F k) : DmAt B w' v As :=
  ⟨h.row.kept hk h1, fun x hx => (h.ent x hx).kept hk (h2 x hx), h.apt⟩
theorem DmAt.same {B : Nat} {w w' : World} {v : Value} {As : List Ad} (h : DmAt B w v As) (hk : Same w w') : DmAt B w' v As := h.kept hk (fun _ _ f => f) (fun _ _ _ _ f => f)
theorem DmAt.base {B B' : Nat} {w : World} {v : Value} {As : List Ad} (h : DmAt B w v As) (hb : B' ≤ B) : DmAt B' w v As := ⟨h.row.base hb, fun x hx => (h.ent x hx).base hb, h.apt⟩

/-- What is seen at a time. -/
def visF (V : Vs) (t : Int) : Bx → Nm → Option ByteArray := fun b n => visV (V b n) t

/-- What Dump tells. -/
def DumA (w : World) (vis : Bx → Nm → Option ByteArray) (e : Ending) (w' : World) : Prop := ∃ v As, e = .returned v ∧ DmAt w.heap.size w' v As ∧ IsDm vis (adD As) ∧ As.length ≤ 100000 ∧ (∀ x ∈ As, x.es.length ≤ 100000) ∧ Same w w'

theorem keysBC_any (mb : Option Nat) (W : World) : Calls Try.prog 35 #[.map mb] W fun e w' => e = .returned (.func (.func 49) #[] #[.pointer (some ⟨W.heap.size, 0, none⟩)]) ∧ w' = W.alloc (.cells #[.map mb] 68) := by
  go_enter Try.func35, Try.ntmps35
  go_wp2_with fail
  go_ret
  exact ⟨rfl, rfl⟩

/-- What the loop over the archives keeps. -/
structure DmI (w wr : World) (vis : Bx → Nm → Option ByteArray) (xs : List Bx) (v : Value) (As : List Ad) : Prop where
  at' : DmAt w.heap.size wr v As
  ris : (adD As).Pairwise (fun x y => ltB x.1 y.1)
  ne : ∀ x ∈ adD As, x.2 ≠ []
  ent : ∀ x ∈ adD As, x.2.Pairwise (fun p q => bysN p.1 < bysN q.1) ∧ ∀ n d, (n, d) ∈ x.2 ↔ vis x.1 n = some d
  all : ∀ b n, b ∈ xs → vis b n ≠ none → ∃ x ∈ adD As, x.1 = b
  mem : ∀ x ∈ adD As, x.1 ∈ xs
  len : As.length ≤ xs.length
  big : ∀ x ∈ As, x.es.length ≤ 100000
  same : Same w wr

/-- An archive without entries. -/
theorem DmI.skip {w wr : World} {vis : Bx → Nm → Option ByteArray} {xs : List Bx} {v : Value} {As : List Ad} (h : DmI w wr vis xs v As) {b : Bx} (hb : ∀ n, vis b n = none) : DmI w wr vis (xs ++ [b]) v As :=
  { h with
    all := fun b' n hm hv => by
      rcases List.mem_append.1 hm with e | e
      · exact h.all b' n e hv
      · rw [List.mem_singleton.1 e] at hv; exact absurd (hb n) hv
    mem := fun x hx => List.mem_append.2 (.inl (h.mem x hx))
    len := by rw [List.length_append]; exact Nat.le_add_right_of_le h.len }

/-- An archive more. -/
theorem DmI.more {w wr wr' : World} {vis : Bx → Nm → Option ByteArray} {xs : List Bx} {v v' : Value} {As : List Ad} (h : DmI w wr vis xs v As) {x : Ad} (hat : DmAt w.heap.size wr' v' (As ++ [x])) (hs : Same w wr') (hlt : ∀ b' ∈ xs, ltB b' x.b) (hne : x.es ≠ []) (hent : x.es.Pairwise (fun p q => bysN p.1 < bysN q.1) ∧ ∀ n d, (n, d) ∈ x.es ↔ vis x.b n = some d) (hbig : x.es.length ≤ 100000) : DmI w wr' vis (xs ++ [x.b]) v' (As ++ [x]) := by
  have hD : adD (As ++ [x]) = adD As ++ [(x.b, x.es)] := by unfold adD; rw [List.map_append]; rfl
  refine ⟨hat, ?_, fun y hy => ?_, fun y hy => ?_, fun b' n hm hv => ?_, fun y hy => ?_, ?_, fun y hy => ?_, hs⟩
  · rw [hD, List.pairwise_append]
    refine ⟨h.ris, List.pairwise_singleton _ _, fun a ha c hc => ?_⟩
    rw [List.mem_singleton] at hc
    subst hc
    exact hlt _ (h.mem a ha)
  · rw [hD] at hy
    rcases List.mem_append.1 hy with e | e
    · exact h.ne y e
    · rw [List.mem_singleton.1 e]; exact hne
  · rw [hD] at hy
    rcases List.mem_append.1 hy with e | e
    · exact h.ent y e
    · rw [List.mem_singleton.1 e]; exact hent
  · rw [hD]
    rcases List.mem_append.1 hm with e | e
    · obtain ⟨y, h1, h2⟩ := h.all b' n e hv
      exact ⟨y, List.mem_append.2 (.inl h1), h2⟩
    · exact ⟨(x.b, x.es), List.mem_append.2 (.inr (List.mem_singleton.2 rfl)), (List.mem_singleton.1 e).symm⟩
  · rw [hD] at hy
    rcases List.mem_append.1 hy with e | e
    · exact List.mem_append.2 (.inl (h.mem y e))
    · rw [List.mem_singleton.1 e]; exact List.mem_append.2 (.inr (List.mem_singleton.2 rfl))
  · rw [List.length_append, List.length_append]
    have := h.len
    simp only [List.length_singleton]
    omega
  · rcases List.mem_append.1 hy with e | e
    · exact h.big y e
    · rw [List.mem_singleton.1 e]; exact hbig

theorem ent_vis (V : Vs) (b : Bx) (t : Int) {L : List Nm} (hr : RisN L) (hm : ∀ n, n ∈ L ↔ isTh (V b n) t = true) : (L.map (fun n => (n, (newV (V b n) t).data))).Pairwise (fun p q => bysN p.1 < bysN q.1) ∧ ∀ n d, (n, d) ∈ L.map (fun n => (n, (newV (V b n) t).data)) ↔ visF V t b n = some d := by
  refine ⟨by rw [List.pairwise_map]; exact hr, fun n d => ?_⟩
  rw [List.mem_map]
  unfold visF visV
  constructor
  · rintro ⟨m, h1, h2⟩
    simp only [Prod.mk.injEq] at h2
    obtain ⟨rfl, rfl⟩ := h2
    have := (hm m).1 h1
    unfold isTh at this
    rw [this]; rfl
  · intro h
    by_cases e : (newV (V b n) t).there = true
    · rw [e] at h
      simp only [if_true, Option.some.injEq] at h
      exact ⟨n, (hm n).2 e, by rw [h]⟩
    · rw [if_neg e] at h; cases h

set_option maxRecDepth 100000 in
set_option maxHeartbeats 2000000 in
theorem dump_any {K N : Nat} {w : World} {p : Nat} {s : Cs} {ρ : Nat → Nat} {mb : Nat} (h : Ck K N w p s ρ mb) (t : Int) :
    Calls Try.prog 15 #[.pointer (some ⟨p, 0, none⟩), .int .i64 t] w fun e w' => DumA w (visF (vers s) (max t s.floor)) e w' := by
  have p2 : w.cell? ⟨p, 2, none⟩ = some (.map (some mb)) := h.blk.cell 2
  have HK := keysBC_any (some mb) w
  have HS := sortedB s.bx mb w (Nat.le_trans h.lens.1 h.big) h.bm
  have HC : Hid (Ck K N w p s ρ mb) := h
  obtain ⟨vis, hvis⟩ : ∃ v, v = visF (vers s) (max t s.floor) := ⟨_, rfl⟩
  rw [← hvis]
  have HV : Hid (vis = visF (vers s) (max t s.floor)) := hvis
  clear h hvis
  go_enter Try.func15, Try.ntmps15
  go_wp2_with fail
  refine HK.mono ?_
  rintro e w0 ⟨rfl, rfl⟩
  clear HK
  go_wp2_with fail
  refine HS.mono ?_
  rintro e w1 ⟨v, xs, rfl, hris, hmem, hrow, hk1, hlx0⟩
  clear HS p2
  obtain ⟨xa, xc, hv, hne, _⟩ := hrow.shape
  obtain ⟨Ln, hLn⟩ : ∃ x, x = xs.length := ⟨_, rfl⟩
  rw [← hLn] at hv
  subst hv
  have hlx : xs.length ≤ 100000 := hlx0
  have HR : Hid (RowC w.heap.size 62 2 bxE w1 (.slice xa Ln xc) xs ∧ xs.Pairwise ltB ∧ (∀ b, b ∈ xs ↔ ∃ a, getK b s.bx = some a) ∧ Same w w1 ∧ Ln = xs.length ∧ (xs ≠ [] → ∃ g, xa = some ⟨g, 0, none⟩) ∧ xs.length ≤ 100000) := hid ⟨hrow, hris, hmem, hk1, hLn, hne, hlx⟩
  have hLl : Ln ≤ 100000 := by omega
  clear hrow hris hmem hk1 hne hLn hlx
  go_wp2_with fail
  go_loopg [5, 18] Ln (fun q z5 z18 wr => ∃ (i : Nat) (As : List Ad) (a0 : Option Addr) (l0 c0 : Nat), z5 = .slice a0 l0 c0 ∧ z18 = .int .i64 (i : Nat) ∧ Ln - i ≤ q ∧ i ≤ Ln ∧ Hid (DmI w wr vis (xs.take i) (.slice a0 l0 c0) As ∧ RowC w.heap.size 62 2 bxE wr (.slice xa Ln xc) xs))
  case atStart =>
    refine ⟨0, [], none, 0, 0, rfl, rfl, by omega, by omega, hid ⟨⟨⟨RowC.nil, fun x hx => (by cases hx), List.Pairwise.nil⟩, List.Pairwise.nil, fun x hx => (by cases hx), fun x hx => (by cases hx), fun b n hm => (by simp at hm), fun x hx => (by cases hx), by simp, fun x hx => (by cases hx), HR.out.2.2.2.1⟩, HR.out.1⟩⟩
  case round =>
    obtain ⟨i, As, a0, l0, c0, rfl, rfl, hq, hi, HI⟩ := hrel
    by_cases hlt : i < Ln
    · have hr := HR.out
      have hil : i < xs.length := by have := hr.2.2.2.2.1; omega
      obtain ⟨gn, rfl⟩ := hr.2.2.2.2.2.1 (by intro e; rw [e] at hil; simp at hil)
      obtain ⟨b, hb⟩ : ∃ b, b = xs[i] := ⟨_, rfl⟩
      have f0 := RowC.cell bxE_ok HI.out.2 i 0 hil (by decide)
      have f1 := RowC.cell bxE_ok HI.out.2 i 1 hil (by decide)
      rw [← hb] at f0 f1
      rw [Nat.add_zero] at f0
      simp only [bxE, List.getElem?_cons_zero, List.getElem?_cons_succ] at f0 f1
      obtain ⟨w2, hw2⟩ : ∃ W, W = wr.alloc (.cells #[.string b.tn, .string b.ar] 62) := ⟨_, rfl⟩
      have hk2 : Same wr w2 := by rw [hw2]; exact (Kept.refl _ _).alloc _
      obtain ⟨yb, hyb⟩ : ∃ y, y = wr.heap.size := ⟨_, rfl⟩
      have BY : Hid (Blk w2 yb #[.string b.tn, .string b.ar] 62) := hid (by rw [hw2, hyb]; exact Blk.new wr _ _)
      have HEN := entries_any (HC.out.same (HI.out.1.same.trans hk2)) b t
      have HT : Hid (xs.take (i + 1) = xs.take i ++ [b] ∧ (∀ b' ∈ xs.take i, ltB b' b)) := hid ⟨by rw [List.take_succ_eq_append_getElem hil, hb], fun b' hb' => by
        obtain ⟨j, hj, rfl⟩ := List.mem_iff_getElem.1 hb'
        rw [List.length_take] at hj
        rw [List.getElem_take, hb]
        exact List.pairwise_iff_getElem.1 hr.2.1 j i (by omega) hil (by omega)⟩
      have HK2 : Hid (Same wr w2) := hk2
      have hli : (i : Int) < (Ln : Int) := by omega
      have y0 := BY.out.cell 0
      have y1 := BY.out.cell 1
      simp at y0 y1
      rw [hw2, hyb] at y0 y1
      clear hr hil hb hk2
      go_wp2_with fail
      rw [← hw2]
      clear hw2 f0 f1 y0 y1
      refine HEN.mono ?_
      rintro e w3 ⟨ev, L, rfl, hrow3, hris3, hmem3, hlen3, hk3⟩
      clear HEN
      obtain ⟨ea, ec, hev, _⟩ := hrow3.shape
      obtain ⟨El, hEl⟩ : ∃ x, x = (L.map (fun n => (n, (newV (vers s b n) (max t s.floor)).data))).length := ⟨_, rfl⟩
      rw [← hEl] at hev
      subst hev
      have HE : Hid (RowC w2.heap.size 58 2 enE2 w3 (.slice ea El ec) (L.map (fun n => (n, (newV (vers s b n) (max t s.floor)).data))) ∧ (L.map (fun n => (n, (newV (vers s b n) (max t s.floor)).data))).Pairwise (fun p q => bysN p.1 < bysN q.1) ∧ (∀ n d, (n, d) ∈ L.map (fun n => (n, (newV (vers s b n) (max t s.floor)).data)) ↔ vis b n = some d) ∧ Same wr w3 ∧ (L.map (fun n => (n, (newV (vers s b n) (max t s.floor)).data))).length ≤ 100000) := hid (by
        have := ent_vis (vers s) b (max t s.floor) hris3 hmem3
        exact ⟨hrow3, this.1, fun n d => by rw [HV.out]; exact this.2 n d, HK2.out.trans hk3, by rw [List.length_map]; exact hlen3⟩)
      obtain ⟨Es, hEs⟩ : ∃ E, E = L.map (fun n => (n, (newV (vers s b n) (max t s.floor)).data)) := ⟨_, rfl⟩
      rw [← hEs] at HE hEl
      have HEl : Hid (El = Es.length) := hEl
      have y3 := (BY.out.kept hk3 (fun f => f))
      have y0 := y3.cell 0
      have y1 := y3.cell 1
      simp at y0 y1
      have HYB : Hid (yb = wr.heap.size) := hyb
      have HI3 : Hid (DmI w w3 vis (xs.take i) (.slice a0 l0 c0) As ∧ RowC w.heap.size 62 2 bxE w3 (.slice (some ⟨gn, 0, none⟩) Ln xc) xs) := hid ⟨{ HI.out.1 with at' := HI.out.1.at'.same HE.out.2.2.2.1, same := HI.out.1.same.trans HE.out.2.2.2.1 }, HI.out.2.kept HE.out.2.2.2.1 (fun _ _ f => f)⟩
      rw [hyb] at y0 y1
      clear hrow3 hris3 hmem3 hlen3 hk3 hEs hEl y3
      by_cases hz : El = 0
      · subst hz
        have HF : Hid (DmI w w3 vis (xs.take (i + 1)) (.slice a0 l0 c0) As) := hid (by
          rw [HT.out.1]
          refine HI3.out.1.skip (fun n => ?_)
          have he : Es = [] := List.eq_nil_of_length_eq_zero HEl.out.symm
          cases hv : vis b n with
          | none => rfl
          | some d => have := (HE.out.2.2.1 n d).2 hv; rw [he] at this; cases this)
        clear y0 y1 hyb
        go_wp2_with fail
        go_roundg (gk - 1)
        case measure => omega
        case rel => exact ⟨i + 1, As, a0, l0, c0, rfl, by go_num, by omega, by omega, hid ⟨HF.out, HI3.out.2⟩⟩
      · have bz : decide ((0 : Int) < (El : Int)) = true := by simp; omega
        have bz' : decide (0 < El) = true := by simp; omega
        have HSZ : Hid (w.heap.size ≤ w3.heap.size ∧ As.length ≤ 100000 ∧ w.heap.size ≤ w2.heap.size) := hid ⟨HI3.out.1.same.size, by have := HI3.out.1.len; rw [List.length_take] at this; have := HR.out.2.2.2.2.2.2; omega, (HI.out.1.same.trans HK2.out).size⟩
        go_wp2_with (at_builtin; refine wpList_append_c _ adE 3 adE_ok (by decide) w.heap.size 43 55 (.agg #[.string ⟨#[]⟩, .string ⟨#[]⟩, .slice none 0 0]) 56 Try.underlying43 Try.infoArc rfl (by decide) rfl (.tmp 29) (.tmp 36) rfl (.slice a0 l0 c0) As rfl (HI3.out.1.at'.row.kept (show Same _ _ from (Kept.refl _ _).alloc _) (fun _ _ f => f)) ⟨w3.heap.size, 0, none⟩ 1 1 [(⟨b, ea, El, ec, Es⟩ : Ad)] rfl rfl (cellsAt_ad _ ⟨b, ea, El, ec, Es⟩) (by have := HSZ.out.2.1; simp; omega) (by have := HSZ.out.1; simp; omega) ?_)
        intro v5 w5 hr5 hg5
        obtain ⟨a5, c5, hv5, _⟩ := hr5.shape
        subst hv5
        have hk5 : Kept (fun k => (Value.slice a0 l0 c0).ownBlock = some k) w3 w5 := Kept.trans (F := fun _ => False) ((Kept.refl _ w3).alloc _) ((Kept.refl _ _).grown hg5 (fun k e => .inl e)) (fun _ _ f => False.elim f) (fun _ _ e => e)
        have HF : Hid (DmI w w5 vis (xs.take (i + 1)) (.slice a5 (As ++ [(⟨b, ea, El, ec, Es⟩ : Ad)]).length c5) (As ++ [(⟨b, ea, El, ec, Es⟩ : Ad)]) ∧ RowC w.heap.size 62 2 bxE w5 (.slice (some ⟨gn, 0, none⟩) Ln xc) xs) := hid (by
          have h3 := HI3.out.1
          have hnew : RowC w.heap.size 58 2 enE2 w3 (.slice ea El ec) Es := HE.out.1.base HSZ.out.2.2
          refine ⟨?_, HI3.out.2.kept hk5 (fun k e => rows_apart HI3.out.2 h3.at'.row (by decide) k e)⟩
          rw [HT.out.1]
          refine h3.more (x := (⟨b, ea, El, ec, Es⟩ : Ad)) ⟨hr5, fun y hy => ?_, ?_⟩ (Kept.trans h3.same hk5 (fun _ _ f => f) (fun k hk e => by have := h3.at'.row.ge e; omega)) HT.out.2 (fun e => hz (by rw [HEl.out]; have e2 : Es = [] := e; rw [e2]; rfl)) ⟨HE.out.2.1, HE.out.2.2.1⟩ HE.out.2.2.2.2
          · rcases List.mem_append.1 hy with e | e
            · exact (h3.at'.ent y e).kept hk5 (fun k e2 => rows_apart (h3.at'.ent y e) h3.at'.row (by decide) k e2)
            · rw [List.mem_singleton.1 e]
              exact hnew.kept hk5 (fun k e2 => rows_apart hnew h3.at'.row (by decide) k e2)
          · rw [List.pairwise_append]
            refine ⟨h3.at'.apt, List.pairwise_singleton _ _, fun y hy z hz2 k e1 e2 => ?_⟩
            rw [List.mem_singleton] at hz2
            subst hz2
            have g1 := (HI.out.1.at'.ent y hy).lt e1
            have g2 := HE.out.1.ge e2
            have := HK2.out.size
            omega)
        obtain ⟨l5, hl5⟩ : ∃ x, x = (As ++ [(⟨b, ea, El, ec, Es⟩ : Ad)]).length := ⟨_, rfl⟩
        rw [← hl5] at HF ⊢
        clear hr5 hg5 hk5 hl5 y0 y1 hyb
        go_wp2_with fail
        go_roundg (gk - 1)
        case measure => omega
        case rel => exact ⟨i + 1, As ++ [(⟨b, ea, El, ec, Es⟩ : Ad)], a5, l5, c5, rfl, by go_num, by omega, by omega, HF⟩
    · have e : i = Ln := by omega
      have HF : Hid (DumA w vis (.returned (.slice a0 l0 c0)) wr) := hid (by
        have hr := HR.out
        have h1 := HI.out.1
        rw [e, hr.2.2.2.2.1, List.take_length] at h1
        refine ⟨_, As, rfl, h1.at', ⟨h1.ris, h1.ne, h1.ent, fun b n hv => ?_⟩, Nat.le_trans h1.len hr.2.2.2.2.2.2, h1.big, h1.same⟩
        refine h1.all b n ((hr.2.2.1 b).2 ?_) hv
        cases hg : getK b s.bx with
        | some a => exact ⟨a, rfl⟩
        | none =>
          have : vers s b n = [] := by unfold vers fndC; rw [hg]; rfl
          rw [HV.out] at hv
          unfold visF at hv
          rw [this] at hv
          exact absurd rfl hv)
      go_wp2_with fail
      go_ret
      exact HF.out

end Go.Proofs.Ythignkloecfcbaa
