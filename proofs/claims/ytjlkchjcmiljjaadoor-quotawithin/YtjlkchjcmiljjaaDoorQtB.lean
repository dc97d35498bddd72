/-
  Layer 17: a book in memory; find, left.
-/
import Derived.Test.YtjlkchjcmiljjaaDoorQtA
namespace Go.Proofs.YtjlkchjcmiljjaaDoor
open Go.RowKit Go.Maps

def ptR (v : Value) : Option (DataW Unit × List MemPlace) := match v with | .pointer (some ⟨b, 0, none⟩) => some (.lit (.int .i64 (b : Nat)), []) | .pointer none => some (.nil, []) | _ => none
def ptV (b : Nat) : Value := .pointer (some ⟨b, 0, none⟩)
def ptD (b : Nat) : DataW Unit := .lit (.int .i64 (b : Nat))

theorem ptR_inv (v : Value) (b : Nat) (ps : List MemPlace) (h : ptR v = some (ptD b, ps)) : v = ptV b := by
  unfold ptR at h
  split at h
  · simp only [ptD, Option.some.injEq, Prod.mk.injEq, DataW.lit.injEq, Lit.int.injEq, true_and] at h
    obtain ⟨h, _⟩ := h
    rw [ptV]
    congr 3
    omega
  · cases h
  · cases h

theorem ptR_nil (v : Value) (ps : List MemPlace) (h : ptR v = some (.nil, ps)) : v = .pointer none := by
  unfold ptR at h
  split at h
  · cases h
  · rfl
  · cases h

theorem rdPt : RdG ptR ptV ptD (.pointer none) .nil := ⟨fun _ => rfl, ptR_inv, rfl, ptR_nil⟩

/-- A reservation in memory: whose account, of what. -/
structure Rv where
  bl : Nat
  m : Us

def reR (v : Value) : Option (DataW Unit × List MemPlace) := match v with
  | .agg ⟨[.pointer (some ⟨b, 0, none⟩), .int .i64 x, .int .i64 y]⟩ => some (.agg [.lit (.int .i64 (b : Nat)), .lit (.int .i64 x), .lit (.int .i64 y)], [])
  | .agg ⟨[.pointer none, .int .i64 0, .int .i64 0]⟩ => some (.nil, [])
  | _ => none
def reV (r : Rv) : Value := .agg #[.pointer (some ⟨r.bl, 0, none⟩), .int .i64 r.m.b, .int .i64 r.m.e]
def reD (r : Rv) : DataW Unit := .agg [.lit (.int .i64 (r.bl : Nat)), .lit (.int .i64 r.m.b), .lit (.int .i64 r.m.e)]

theorem reR_inv (v : Value) (r : Rv) (ps : List MemPlace) (h : reR v = some (reD r, ps)) : v = reV r := by
  unfold reR at h
  split at h
  · simp only [reD, Option.some.injEq, Prod.mk.injEq, DataW.agg.injEq, List.cons.injEq, DataW.lit.injEq, Lit.int.injEq, true_and, and_true] at h
    obtain ⟨⟨h1, h2, h3⟩, _⟩ := h
    unfold reV
    rw [h2, h3]
    congr 5
    congr 2
    omega
  · cases h
  · cases h

theorem reR_nil (v : Value) (ps : List MemPlace) (h : reR v = some (.nil, ps)) : v = .agg #[.pointer none, .int .i64 0, .int .i64 0] := by
  unfold reR at h
  split at h
  · cases h
  · rfl
  · cases h

theorem rdRe : RdG reR reV reD (.agg #[.pointer none, .int .i64 0, .int .i64 0]) .nil := ⟨fun _ => rfl, reR_inv, rfl, reR_nil⟩

theorem zeroPt (w : World) : (zeroValue 56).run Tryd.prog w = .ok (.pointer none) w := by kernel_rfl
theorem zeroRe (w : World) : (zeroValue 70).run Tryd.prog w = .ok (.agg #[.pointer none, .int .i64 0, .int .i64 0]) w := by kernel_rfl

abbrev MpP (w : World) (b : Nat) (A : List (Nm × Nat)) : Prop := MpG 9 ptR kN ptD w b A
abbrev MpR (w : World) (b : Nat) (R : List (Nb × Rv)) : Prop := MpG 3 reR kI reD w b R

theorem MpG.ne {κ β : Type} {kl : κ → Lit} {dv : β → DataW Unit} {kt : TypeId} {R : Value → Option (DataW Unit × List MemPlace)} {w : World} {b : Nat} {L : List (κ × β)} (h : MpG kt R kl dv w b L) {g : Nat} {cs : Array Value} {t : TypeId} (hb : Blk w g cs t) : g ≠ b := by
  rintro rfl
  obtain ⟨es, clock, h1, _⟩ := h
  unfold Blk at hb
  rw [hb] at h1
  cases h1

theorem Blk.ne {w : World} {g g' : Nat} {cs cs' : Array Value} {t t' : TypeId} (hb : Blk w g cs t) (hb' : Blk w g' cs' t') (hn : t ≠ t') : g ≠ g' := by
  rintro rfl
  unfold Blk at hb hb'
  rw [hb] at hb'
  injection hb' with h
  injection h with _ h _
  exact hn h

/-- delete(m, s). -/
theorem MpG.del {κ β : Type} [DecidableEq κ] {kl : κ → Lit} {dv : β → DataW Unit} {kt : TypeId} {R : Value → Option (DataW Unit × List MemPlace)} {w : World} {b : Nat} {L : List (κ × β)} (h : MpG kt R kl dv w b L) (hK : KL kl) (K : Keyed Tryd.prog kt) (t e : TypeId) (ht : Tryd.prog.underlying t = some (.map kt e)) (s : κ) (kv : Value) (hs : keyOf Tryd.prog kt kv = some (kl s)) (ty : TypeId) :
    ∃ w', (Builtin.delete_ #[t, kt] ty #[.map (some b), kv]).run Tryd.prog w = .ok (.tuple #[]) w' ∧ MpG kt R kl dv w' b (delG s L) ∧ Kept (· = b) w w' := by
  obtain ⟨w', h1, h2, h3⟩ := World.ownsMap.drop (t := t) h K ht hs ty
  have e9 : (mpG kl dv L).del (kl s) = mpG kl dv (delG s L) := by unfold mpG DataW.del; simp only; rw [filter_entG hK]
  rw [e9] at h2
  exact ⟨w', h1, MpG.tight h2, turnedK h3⟩

def acE (may use held : Us) : Array Value := #[.int .i64 may.b, .int .i64 may.e, .int .i64 use.b, .int .i64 use.e, .int .i64 held.b, .int .i64 held.e]

/-- A book in memory. -/
structure Qb (w : World) (p ma mr : Nat) (bl : List Nat) (xs : List Tn) (S : Sq) : Prop where
  inv : Qv xs S
  blk : Blk w p #[.map (some ma), .int .i64 (S.last : Nat), .map (some mr)] 55
  len : bl.length = xs.length
  nd : bl.Pairwise (fun a b => a ≠ b)
  acc : ∀ k, k < xs.length → Blk w (bl.getD k 0) (acE (mayT xs k) (S.use k) (S.held k)) 58
  ten : ∃ A, MpP w ma A ∧ ∀ q, q ∈ A ↔ ∃ k t, xs[k]? = some t ∧ q = (t.nm, bl.getD k 0)
  res : ∃ R, MpR w mr R ∧ R.length ≤ S.hs.length ∧ ∀ q : Nb × Rv, q ∈ R ↔ ∃ h ∈ S.hs, q.1.v = (h.id : Int) ∧ q.2 = ⟨bl.getD h.ten 0, h.m⟩
  mm : ma ≠ mr

/-- Its blocks. -/
def FQ (p ma mr : Nat) (bl : List Nat) (k : Nat) : Prop := k = p ∨ k = ma ∨ k = mr ∨ k ∈ bl

section
variable {w : World} {p ma mr : Nat} {bl : List Nat} {xs : List Tn} {S : Sq}

theorem getD_mem {l : List Nat} {k : Nat} (h : k < l.length) : l.getD k 0 ∈ l := by
  rw [List.getD_eq_getElem?_getD, List.getElem?_eq_getElem h]
  exact List.getElem_mem h

theorem Qb.kept {F : Nat → Prop} {w' : World} (h : Qb w p ma mr bl xs S) (hk : Kept F w w') (hF : ∀ k, FQ p ma mr bl k → ¬ F k) : Qb w' p ma mr bl xs S := by
  obtain ⟨A, h1, h2⟩ := h.ten
  obtain ⟨R, h3, h4, h5⟩ := h.res
  exact ⟨h.inv, h.blk.kept hk (hF p (.inl rfl)), h.len, h.nd, fun k hkl => (h.acc k hkl).kept hk (hF _ (.inr (.inr (.inr (getD_mem (by rw [h.len]; exact hkl)))))), ⟨A, h1.kept hk (hF ma (.inr (.inl rfl))), h2⟩, ⟨R, h3.kept hk (hF mr (.inr (.inr (.inl rfl)))), h4, h5⟩, h.mm⟩

theorem Qb.same {w' : World} (h : Qb w p ma mr bl xs S) (hk : Same w w') : Qb w' p ma mr bl xs S := h.kept hk (fun _ _ f => f)

theorem Qb.fp_lt (h : Qb w p ma mr bl xs S) {k : Nat} (hk : FQ p ma mr bl k) : k < w.heap.size := by
  obtain ⟨A, h1, _⟩ := h.ten
  obtain ⟨R, h3, _⟩ := h.res
  rcases hk with rfl | rfl | rfl | hk
  · exact h.blk.lt
  · exact h1.lt
  · exact h3.lt
  · obtain ⟨i, hi, e⟩ := List.getElem_of_mem hk
    have h9 := (h.acc i (by rw [← h.len]; exact hi)).lt
    rw [List.getD_eq_getElem?_getD, List.getElem?_eq_getElem hi] at h9
    simp only [Option.getD_some] at h9
    rw [← e]
    exact h9

/-- m[name], ok. -/
theorem Qb.look (h : Qb w p ma mr bl xs S) (s : Nm) : (Instr.lookup 52 (.map (some ma)) (.string s.s) true).run Tryd.prog w = .ok (.tuple #[((idxT xs s.s).map (fun k => bl.getD k 0)).elim (.pointer none) ptV, .bool (idxT xs s.s).isSome]) w := by
  obtain ⟨A, h1, h2⟩ := h.ten
  have h3 := MpG.look h1 klN rdPt nameKey 52 56 Tryd.underlying52 (zeroPt w) s (.string s.s) (keyN s)
  rw [h3]
  cases hi : idxT xs s.s with
  | none =>
    rw [getG_eq_none (fun q hq e => by
      obtain ⟨k, t, ht, rfl⟩ := (h2 q).1 hq
      exact idxT_none hi t (List.mem_of_getElem? ht) (by have := congrArg Nm.s e; exact this))]
    rfl
  | some k =>
    obtain ⟨t, ht, e⟩ := idxT_some hi
    rw [getG_of_mem (h1.apart nameKey) ((h2 (s, bl.getD k 0)).2 ⟨k, t, ht, by rw [show s = t.nm from Nm.ext' e.symm]⟩)]
    rfl

theorem qfind_some (h : Qb w p ma mr bl xs S) (s : Nm) {k : Nat} (hk : idxT xs s.s = some k) : Calls Tryd.prog 22 #[.pointer (some ⟨p, 0, none⟩), .string s.s] w fun e w' => e = .returned (.tuple #[.pointer (some ⟨bl.getD k 0, 0, none⟩), .int .i64 0]) ∧ Same w w' := by
  have hl := h.look s
  rw [hk] at hl
  simp only [Option.map, Option.elim, Option.isSome, ptV] at hl
  have x0 := h.blk.cell 0
  simp only [List.getElem?_toArray, List.getElem?_cons_zero] at x0
  obtain ⟨a, ha⟩ : ∃ a, a = bl.getD k 0 := ⟨_, rfl⟩
  rw [← ha] at hl ⊢
  clear ha h hk
  go_enter Tryd.func22, Tryd.ntmps22
  go_wp2_with fail
  go_ret2
  exact ⟨rfl, Kept.refl _ _⟩

theorem qfind_none (h : Qb w p ma mr bl xs S) (s : Nm) (hk : idxT xs s.s = none) : Calls Tryd.prog 22 #[.pointer (some ⟨p, 0, none⟩), .string s.s] w fun e w' => e = .returned (.tuple #[.pointer none, .int .i64 170]) ∧ Same w w' := by
  have hl := h.look s
  rw [hk] at hl
  simp only [Option.map, Option.elim, Option.isSome] at hl
  have x0 := h.blk.cell 0
  simp only [List.getElem?_toArray, List.getElem?_cons_zero] at x0
  clear h hk
  go_enter Tryd.func22, Tryd.ntmps22
  go_wp2_with fail
  go_ret2
  exact ⟨rfl, Kept.refl _ _⟩

theorem qfind_nil (w : World) (s : ByteArray) : Calls Tryd.prog 22 #[.pointer none, .string s] w fun e w' => e = .returned (.tuple #[.pointer none, .int .i64 3]) ∧ Same w w' := by
  go_enter Tryd.func22, Tryd.ntmps22
  go_wp2_with fail
  go_ret2
  exact ⟨rfl, Kept.refl _ _⟩

theorem Blk.c6 {w : World} {g : Nat} {a b c d e f : Value} {t : TypeId} (hb : Blk w g #[a, b, c, d, e, f] t) : w.cell? ⟨g, 0, none⟩ = some a ∧ w.cell? ⟨g, 1, none⟩ = some b ∧ w.cell? ⟨g, 2, none⟩ = some c ∧ w.cell? ⟨g, 3, none⟩ = some d ∧ w.cell? ⟨g, 4, none⟩ = some e ∧ w.cell? ⟨g, 5, none⟩ = some f :=
  ⟨hb.cell 0, hb.cell 1, hb.cell 2, hb.cell 3, hb.cell 4, hb.cell 5⟩

set_option maxRecDepth 100000 in
set_option maxHeartbeats 400000 in
theorem aleft_any (w : World) (a : Nat) (m u h : Us) (hb : Blk w a (acE m u h) 58) (hm : m.inn 0 1000000000) (hu : u.inn 0 2000000000) (hh : h.inn 0 2000000000) : Calls Tryd.prog 23 #[.pointer (some ⟨a, 0, none⟩)] w fun e w' => e = .returned (usV (m.sub (u.add h)).up) ∧ Same w w' := by
  obtain ⟨W1, hW1⟩ : ∃ W, W = w.alloc (.cells #[.int .i64 0, .int .i64 0] 31) := ⟨_, rfl⟩
  obtain ⟨xb, hxb⟩ : ∃ b, b = w.heap.size := ⟨_, rfl⟩
  have HK1 : Hid (Same w W1 ∧ w.heap.size ≤ xb) := hid ⟨by rw [hW1]; exact (Kept.refl _ w).alloc _, by omega⟩
  have HB : Hid (Blk W1 xb #[.int .i64 0, .int .i64 0] 31) := hid (by rw [hW1, hxb]; exact Blk.new w _ _)
  have hbA := hb.kept HK1.out.1 (fun f => f)
  unfold acE at hbA
  obtain ⟨c0, c1, c2, c3, c4, c5⟩ := hbA.c6
  have HNA : a ≠ xb := by have := hb.lt; omega
  obtain ⟨s, hs⟩ : ∃ s, s = u.add h := ⟨_, rfl⟩
  obtain ⟨d, hd⟩ : ∃ d, d = m.sub s := ⟨_, rfl⟩
  have HP : Hid (∀ W, Calls Tryd.prog 32 #[.agg #[.int .i64 u.b, .int .i64 u.e], .agg #[.int .i64 h.b, .int .i64 h.e]] W fun e w' => e = .returned (.agg #[.int .i64 s.b, .int .i64 s.e]) ∧ Same W w') := hid (fun W => by rw [hs]; exact uplus_any W u h (by unfold Us.inn at *; omega) (by unfold Us.inn at *; omega))
  have HM : Hid (∀ W, Calls Tryd.prog 37 #[.agg #[.int .i64 m.b, .int .i64 m.e], .agg #[.int .i64 s.b, .int .i64 s.e]] W fun e w' => e = .returned (.agg #[.int .i64 d.b, .int .i64 d.e]) ∧ Same W w') := hid (fun W => by rw [hd]; exact uminus_any W m s (by unfold Us.inn at *; omega) (by rw [hs]; unfold Us.inn Us.add at *; simp only; omega))
  have HR : Hid (∀ W, Calls Tryd.prog 33 #[.agg #[.int .i64 d.b, .int .i64 d.e]] W fun e w' => e = .returned (.agg #[.int .i64 d.up.b, .int .i64 d.up.e]) ∧ Same W w') := hid (fun W => uraised_any W d)
  rw [← hs, ← hd]
  obtain ⟨r, hr⟩ : ∃ r, r = d.up := ⟨_, rfl⟩
  rw [← hr] at HR ⊢
  clear hbA hb hm hu hh hs hd hr
  have HKW : Hid (Same W1 W1) := hid (Kept.refl _ _)
  have HNE : Hid (a ≠ xb) := hid HNA
  go_enter Tryd.func23, Tryd.ntmps23
  go_upto_region 1 with fail
  rw [← hW1, ← hxb]
  clear hW1 hxb
  go_region_held3 (fun w' => w'.cell? ⟨a, 0, none⟩ = some (.int .i64 m.b) ∧ w'.cell? ⟨a, 1, none⟩ = some (.int .i64 m.e) ∧ w'.cell? ⟨a, 2, none⟩ = some (.int .i64 u.b) ∧ w'.cell? ⟨a, 3, none⟩ = some (.int .i64 u.e) ∧ w'.cell? ⟨a, 4, none⟩ = some (.int .i64 h.b) ∧ w'.cell? ⟨a, 5, none⟩ = some (.int .i64 h.e))
    (first
      | (go_split_ands; exact ⟨hk2.cell (by assumption) (fun f => f), hk2.cell (by assumption) (fun f => f), hk2.cell (by assumption) (fun f => f), hk2.cell (by assumption) (fun f => f), hk2.cell (by assumption) (fun f => f), hk2.cell (by assumption) (fun f => f)⟩)
      | (go_split_ands; exact ⟨(set17 HBW.out).2.cell (by assumption) HNE.out, (set17 HBW.out).2.cell (by assumption) HNE.out, (set17 HBW.out).2.cell (by assumption) HNE.out, (set17 HBW.out).2.cell (by assumption) HNE.out, (set17 HBW.out).2.cell (by assumption) HNE.out, (set17 HBW.out).2.cell (by assumption) HNE.out⟩)
      | go_keep)
    (first
      | (go_at_call 32; refine (HP.out _).mono ?_; rintro e w2 ⟨rfl, hk2⟩; have HKX : Hid (Same W1 w2) := hid (by first | exact Same.trans HKW.out hk2 | exact Same.trans HKW.out.drew hk2); clear HKW; have HKW := HKX; clear HKX; have HBX : Hid (Blk w2 xb #[.int .i64 0, .int .i64 0] 31) := hid (HB.out.kept HKW.out (fun f => f)); have HBW := HBX; clear HBX; obtain ⟨y0, y1, y2, y3⟩ := HBW.out.c2)
      | (go_at_call 37; refine (HM.out _).mono ?_; rintro e w2 ⟨rfl, hk2⟩; have HKX : Hid (Same W1 w2) := hid (by first | exact Same.trans HKW.out hk2 | exact Same.trans HKW.out.drew hk2); clear HKW; have HKW := HKX; clear HKX; have HBX : Hid (Blk w2 xb #[.int .i64 0, .int .i64 0] 31) := hid (HB.out.kept HKW.out (fun f => f)); have HBW := HBX; clear HBX; obtain ⟨y0, y1, y2, y3⟩ := HBW.out.c2)
      | (go_at_call 33; refine (HR.out _).mono ?_; rintro e w2 ⟨rfl, hk2⟩; have HKX : Hid (Same W1 w2) := hid (by first | exact Same.trans HKW.out hk2 | exact Same.trans HKW.out.drew hk2); clear HKW; have HKW := HKX; clear HKX; have HBX : Hid (Blk w2 xb #[.int .i64 0, .int .i64 0] 31) := hid (HB.out.kept HKW.out (fun f => f)); have HBW := HBX; clear HBX; obtain ⟨y0, y1, y2, y3⟩ := HBW.out.c2))
  go_wp2_with fail
  refine bodyPost_ret (v := usV r) (by rw [results_17 (p := 2) (ty := 31) rfl _ _ _ _ _ ⟨xb, 0, none⟩ _ rfl (loadU (set17 HBW.out).1)]; rfl) rfl ?_
  exact ⟨rfl, Same.trans HK1.out.1 HKW.out |>.then (set17 HBW.out).2 (fun k hk e => by have := HK1.out.2; omega)⟩

end

end Go.Proofs.YtjlkchjcmiljjaaDoor
