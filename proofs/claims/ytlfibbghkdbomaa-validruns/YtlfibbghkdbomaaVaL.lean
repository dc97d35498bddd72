/-
  Layer 13: the document's examples.
-/
import Derived.Test.YtlfibbghkdbomaaVaK
namespace Go.Proofs.Ytlfibbghkdbomaa
open Go.RowKit Go.Maps Go.Sort Go.Shelf

theorem Kept.undrewV {F : Nat → Prop} {w w' : World} (h : Kept F w.drew w') : Kept F w w' := ⟨h.os, h.tape, h.output, h.size, h.block⟩

/-- A set on its way: nothing that was there ahead of it has turned. -/
def Vg (K : Nat) (w wi : World) (p : Nat) (J : Nat → Prop) (M : Mv) : Prop := Vx K wi p J M ∧ (∀ k, J k → w.heap.size ≤ k) ∧ Same w wi

section
variable {K : Nat} {w wi : World} {p : Nat} {J : Nat → Prop} {M : Mv}

theorem Vg.same (h : Vg K w wi p J M) {w' : World} (hk : Same wi w') : Vg K w w' p J M := ⟨h.1.same hk, h.2.1, h.2.2.trans hk⟩

theorem Vg.step (h : Vg K w wi p J M) {K' : Nat} {M' : Mv} {w' : World} (hx : Vx K' w' p J M') (hk : Kept J wi w') : Vg K' w w' p J M' :=
  ⟨hx, h.2.1, Kept.trans h.2.2 hk (fun _ _ f => f) (fun k hlt e => by have := h.2.1 k e; omega)⟩

theorem gvread (h : Vg K w wi p J M) (k : Ke) (hK : K + 1 ≤ 100000) : Calls Try.prog 14 #[.pointer (some ⟨p, 0, none⟩), .agg #[.string k.1.tn, .string k.1.ar, .string k.2.s]] wi fun e w' => e = .returned (.tuple #[]) ∧ Vg (K + 1) w w' p J (rdM M k) :=
  (xvread h.1 k hK).mono (fun _ _ g => ⟨g.1, h.step g.2.1 g.2.2⟩)
theorem gvlist (h : Vg K w wi p J M) (b : Bx) (hK : K + 1 ≤ 100000) : Calls Try.prog 15 #[.pointer (some ⟨p, 0, none⟩), .agg #[.string b.tn, .string b.ar]] wi fun e w' => e = .returned (.tuple #[]) ∧ Vg (K + 1) w w' p J (lsM M b) :=
  (xvlist h.1 b hK).mono (fun _ _ g => ⟨g.1, h.step g.2.1 g.2.2⟩)
theorem gvput (h : Vg K w wi p J M) (k : Ke) (d : ByteArray) (hd : d.size ≤ maxLen) (hK : K + 1 ≤ 100000) : Calls Try.prog 16 #[.pointer (some ⟨p, 0, none⟩), .agg #[.string k.1.tn, .string k.1.ar, .string k.2.s], .string d] wi fun e w' => e = .returned (.tuple #[]) ∧ Vg (K + 1) w w' p J (stM M ⟨k.1, k.2, true, d, hd⟩) :=
  (xvput h.1 k d hd hK).mono (fun _ _ g => ⟨g.1, h.step g.2.1 g.2.2⟩)
theorem gvdel (h : Vg K w wi p J M) (k : Ke) (hK : K + 1 ≤ 100000) : Calls Try.prog 17 #[.pointer (some ⟨p, 0, none⟩), .agg #[.string k.1.tn, .string k.1.ar, .string k.2.s]] wi fun e w' => e = .returned (.tuple #[]) ∧ Vg (K + 1) w w' p J (stM M ⟨k.1, k.2, false, ⟨#[]⟩, by decide⟩) :=
  (xvdel h.1 k hK).mono (fun _ _ g => ⟨g.1, h.step g.2.1 g.2.2⟩)

end

set_option maxHeartbeats 400000 in
theorem vkey_any (a b : ByteArray) (w : World) : Calls Try.prog 24 #[.string a, .string b] w fun e w' => e = .returned (.agg #[.string ⟨#[116]⟩, .string a, .string b]) ∧ Same w w' := by
  go_enter Try.func24, Try.ntmps24
  go_wp2_with fail
  refine bodyPost_ret (v := .agg #[.string ⟨#[116]⟩, .string a, .string b]) (by rw [results_cellC rfl]; simp [go_sem]) rfl ?_
  exact ⟨rfl, (Kept.refl _ w).alloc _⟩

/-- A row of one write. -/
theorem srcV_one {w : World} {x : Nat} {r : Wr} (h : Blk w x (wrE r).toArray 51) : SrcC 5 wrE w (fun _ => True) (.slice (some ⟨x, 0, none⟩) 1 1) [r] := by
  refine ⟨_, _, rfl, Nat.le_refl _, fun _ => ⟨x, 0, rfl, trivial, fun j hj i hi => ?_⟩⟩
  have : j = 0 := by simpa using hj
  subst this
  rw [h.cell]
  simp

/-- The commit that the law makes. -/
def cmO (t : Int) (g : Nat) (k : Ke) : Cm := ⟨t, some ⟨g, 0, none⟩, 1, 1, [⟨k.1, k.2, true, ⟨#[]⟩, by decide⟩]⟩

theorem cmO_ok {w : World} {t : Int} {g : Nat} {k : Ke} (h : Blk w g (wrE ⟨k.1, k.2, true, ⟨#[]⟩, by decide⟩).toArray 51) (ht : -9223372036854775808 ≤ t ∧ t ≤ 9223372036854775807) : CmOk w (fun _ => True) (cmO t g k) := ⟨srcV_one h, rfl, ht, by show (1 : Nat) ≤ _; decide⟩

set_option maxHeartbeats 1000000 in
theorem vcommit_any (t : Int) (k : Ke) (w : World) (ht : -9223372036854775808 ≤ t ∧ t ≤ 9223372036854775807) : Calls Try.prog 25 #[.int .i64 t, .agg #[.string k.1.tn, .string k.1.ar, .string k.2.s]] w fun e w' => ∃ g, e = .returned (.agg #[.int .i64 t, .slice (some ⟨g, 0, none⟩) 1 1]) ∧ CmOk w' (fun _ => True) (cmO t g k) ∧ Same w w' := by
  go_enter Try.func25, Try.ntmps25
  go_wp2_with fail
  obtain ⟨wA, hwA⟩ : ∃ W, W = (w.alloc (.cells #[.string k.1.tn, .string k.1.ar, .string k.2.s] 24)).alloc (.cells #[.int .i64 t, .slice (some ⟨w.heap.size + 1 + 1, 0, none⟩) 1 1] 45) := ⟨_, rfl⟩
  have hs : wA.heap.size = w.heap.size + 1 + 1 := by rw [hwA]; simp
  have hka : Same w wA := by rw [hwA]; exact ((Kept.refl _ w).alloc _).alloc _
  rw [← hwA]
  have hb : Blk wA (w.heap.size + 1) #[.int .i64 t, .slice (some ⟨w.heap.size + 1 + 1, 0, none⟩) 1 1] 45 := by
    rw [hwA]
    have := Blk.new (w.alloc (.cells #[.string k.1.tn, .string k.1.ar, .string k.2.s] 24)) #[.int .i64 t, .slice (some ⟨w.heap.size + 1 + 1, 0, none⟩) 1 1] 45
    rwa [World.size_alloc] at this
  have hb2 := hb.kept (F := fun _ => False) (w' := wA.alloc (.cells #[.string k.1.tn, .string k.1.ar, .string k.2.s, .bool true, .string ⟨#[]⟩] 51)) ((Kept.refl _ _).alloc _) (fun f => f)
  have hb3 := Blk.new wA #[.string k.1.tn, .string k.1.ar, .string k.2.s, .bool true, .string ⟨#[]⟩] 51
  rw [hs] at hb3
  obtain ⟨wB, hwB⟩ : ∃ W, W = wA.alloc (.cells #[.string k.1.tn, .string k.1.ar, .string k.2.s, .bool true, .string ⟨#[]⟩] 51) := ⟨_, rfl⟩
  have hkb : Same wA wB := by rw [hwB]; exact (Kept.refl _ _).alloc _
  rw [← hwB] at hb2 hb3 ⊢
  have c0 := hb2.cell 0
  have c1 := hb2.cell 1
  simp at c0 c1
  refine bodyPost_ret (v := .agg #[.int .i64 t, .slice (some ⟨w.heap.size + 1 + 1, 0, none⟩) 1 1]) (by rw [results_cellC rfl]; simp [go_sem, c0, c1]) rfl ?_
  exact ⟨_, rfl, cmO_ok hb3 ht, hka.trans hkb⟩

def kX (a e : ByteArray) (h : a.size ≤ maxLen ∧ e.size ≤ maxLen) : Ke := (⟨⟨#[116]⟩, a, by exact ⟨by decide, h.1⟩⟩, ⟨e, h.2⟩)
def kax : Ke := kX ⟨#[97]⟩ ⟨#[120]⟩ (by decide)
def kay : Ke := kX ⟨#[97]⟩ ⟨#[121]⟩ (by decide)
def kaq : Ke := kX ⟨#[97]⟩ ⟨#[113]⟩ (by decide)
def kbq : Ke := kX ⟨#[98]⟩ ⟨#[113]⟩ (by decide)
def bxb : Bx := ⟨⟨#[116]⟩, ⟨#[98]⟩, by decide⟩
def wGx : Wr := ⟨kax.1, kax.2, false, ⟨#[]⟩, by decide⟩
def wY1 : Wr := ⟨kay.1, kay.2, true, ⟨#[49]⟩, by decide⟩
def wY2 : Wr := ⟨kay.1, kay.2, true, ⟨#[50]⟩, by decide⟩
/-- The set of the examples. -/
def mvE : Mv := stM (stM (stM (lsM (rdM (mv0 3) kax) bxb) wY1) wGx) wY2

theorem stW_E : StW mvE [wGx, wY2] := by
  have hne : kax ≠ kay := by decide +kernel
  refine ⟨?_, fun r => ?_⟩
  · refine List.pairwise_cons.2 ⟨fun b hb => ?_, List.pairwise_singleton _ _⟩
    rw [List.mem_singleton] at hb
    subst hb
    exact .inr ⟨rfl, .inr ⟨rfl, by decide⟩⟩
  · have e : mvE.st (keO r) = if kay = keO r then some wY2 else if kax = keO r then some wGx else if kay = keO r then some wY1 else none := rfl
    rw [e]
    simp only [List.mem_cons, List.not_mem_nil, or_false]
    constructor
    · rintro (rfl | rfl)
      · rw [if_neg (fun h => hne (by rw [h]; rfl)), if_pos (show kax = keO wGx from rfl)]
      · rw [if_pos (show kay = keO wY2 from rfl)]
    · intro h
      split at h
      · exact .inr (Option.some.inj h).symm
      · split at h
        · exact .inl (Option.some.inj h).symm
        · cases h

theorem chk_E1 (a b c : Nat) : chkM mvE [cmO 3 a kax, cmO 4 b kaq, cmO 6 c kbq] = (2, 0) := by
  have h : ∀ a b c, chkM mvE [cmO 3 a kax, cmO 4 b kaq, cmO 6 c kbq] = chkM mvE [cmO 3 0 kax, cmO 4 0 kaq, cmO 6 0 kbq] := fun a b c => rfl
  rw [h]
  decide +kernel
theorem chk_E2 (a b : Nat) : chkM mvE [cmO 4 a kaq, cmO 4 b kaq] = (-1, 130) := by
  have h : ∀ a b, chkM mvE [cmO 4 a kaq, cmO 4 b kaq] = chkM mvE [cmO 4 0 kaq, cmO 4 0 kaq] := fun a b => rfl
  rw [h]
  decide +kernel
theorem cla_E1 (a : Nat) : claM mvE (cmO 4 a kax).t (cmO 4 a kax).ws = true := by
  have h : ∀ a, claM mvE (cmO 4 a kax).t (cmO 4 a kax).ws = claM mvE (cmO 4 0 kax).t (cmO 4 0 kax).ws := fun a => rfl
  rw [h]
  decide +kernel
theorem cla_E2 (a : Nat) : claM mvE (cmO 3 a kax).t (cmO 3 a kax).ws = false := by
  have h : ∀ a, claM mvE (cmO 3 a kax).t (cmO 3 a kax).ws = claM mvE (cmO 3 0 kax).t (cmO 3 0 kax).ws := fun a => rfl
  rw [h]
  decide +kernel

/-- A list of commits in one new block. -/
theorem cms_new {w : World} {g : Nat} {cs : List Cm} {vs : Array Value} (h : Blk w g vs 45) (hv : vs.toList = cs.flatMap cmC) (hok : ∀ c ∈ cs, CmOk w (fun _ => True) c) (hl : cs.length ≤ 1000) : Cms w (fun _ => True) (.slice (some ⟨g, 0, none⟩) cs.length cs.length) cs := by
  refine ⟨⟨_, _, rfl, Nat.le_refl _, fun _ => ⟨g, 0, rfl, trivial, fun j hj i hi => ?_⟩⟩, hok, by omega⟩
  rw [h.cell, ← flat_get cmC_ok cs j i hj hi, ← hv, Nat.zero_add]
  simp

set_option maxRecDepth 100000 in
set_option maxHeartbeats 4000000 in
theorem vawake_any (w : World) : Calls Try.prog 10 #[] w fun e w' => e = .returned (.bool true) ∧ Same w w' := by
  go_enter Try.func10, Try.ntmps10
  go_wp2_with fail
  refine (xvnew w 3).mono ?_
  rintro e w1 ⟨p, J, rfl, hx, hJ, hk1⟩
  have HV1 : Hid (Vg 0 w w1 p J (mv0 3)) := hid ⟨hx, hJ, hk1⟩
  clear hx hJ hk1
  go_wp2_with fail
  refine (vkey_any _ _ _).mono ?_
  rintro e w2 ⟨rfl, hk2⟩
  have HC : Calls Try.prog 14 #[.pointer (some ⟨p, 0, none⟩), .agg #[.string ⟨#[116]⟩, .string ⟨#[97]⟩, .string ⟨#[120]⟩]] w2 _ := gvread (HV1.out.same hk2) kax (by decide)
  clear HV1 hk2
  go_wp2_with fail
  refine HC.mono ?_
  rintro e w3 ⟨rfl, hv3⟩
  have HC : Calls Try.prog 15 #[.pointer (some ⟨p, 0, none⟩), .agg #[.string ⟨#[116]⟩, .string ⟨#[98]⟩]] w3 _ := gvlist hv3 bxb (by decide)
  clear hv3
  go_wp2_with fail
  refine HC.mono ?_
  rintro e w4 ⟨rfl, hv4⟩
  have HV4 := hid hv4
  clear HC hv4
  go_wp2_with fail
  refine (vkey_any _ _ _).mono ?_
  rintro e w5 ⟨rfl, hk5⟩
  have HC : Calls Try.prog 16 #[.pointer (some ⟨p, 0, none⟩), .agg #[.string ⟨#[116]⟩, .string ⟨#[97]⟩, .string ⟨#[121]⟩], .string ⟨#[49]⟩] w5 _ := gvput (HV4.out.same hk5) kay ⟨#[49]⟩ (by decide) (by decide)
  clear HV4 hk5
  go_wp2_with fail
  refine HC.mono ?_
  rintro e w6 ⟨rfl, hv6⟩
  have HV6 := hid hv6
  clear HC hv6
  go_wp2_with fail
  refine (vkey_any _ _ _).mono ?_
  rintro e w7 ⟨rfl, hk7⟩
  have HC : Calls Try.prog 17 #[.pointer (some ⟨p, 0, none⟩), .agg #[.string ⟨#[116]⟩, .string ⟨#[97]⟩, .string ⟨#[120]⟩]] w7 _ := gvdel (HV6.out.same hk7) kax (by decide)
  clear HV6 hk7
  go_wp2_with fail
  refine HC.mono ?_
  rintro e w8 ⟨rfl, hv8⟩
  have HV8 := hid hv8
  clear HC hv8
  go_wp2_with fail
  refine (vkey_any _ _ _).mono ?_
  rintro e w9 ⟨rfl, hk9⟩
  have HC : Calls Try.prog 16 #[.pointer (some ⟨p, 0, none⟩), .agg #[.string ⟨#[116]⟩, .string ⟨#[97]⟩, .string ⟨#[121]⟩], .string ⟨#[50]⟩] w9 _ := gvput (HV8.out.same hk9) kay ⟨#[50]⟩ (by decide) (by decide)
  clear HV8 hk9
  go_wp2_with fail
  refine HC.mono ?_
  rintro e w10 ⟨rfl, hv10⟩
  have HV10 : Hid (Vg 5 w w10 p J mvE) := hid hv10
  clear HC hv10
  go_wp2_with fail
  refine (vkey_any _ _ _).mono ?_
  rintro e w11 ⟨rfl, hk11⟩
  have HV11 : Hid (Vg 5 w w11 p J mvE) := hid (HV10.out.same hk11)
  have HC : Calls Try.prog 18 #[.pointer (some ⟨p, 0, none⟩), .agg #[.string ⟨#[116]⟩, .string ⟨#[97]⟩, .string ⟨#[121]⟩]] w11 fun e w' => e = .returned (.tuple #[.agg #[.string ⟨#[116]⟩, .string ⟨#[97]⟩, .string ⟨#[121]⟩, .bool true, .string ⟨#[50]⟩], .bool true]) ∧ Same w11 w' := xvown HV11.out.1 kay
  clear HV10 hk11
  go_wp2_with fail
  refine HC.mono ?_
  rintro e w12 ⟨rfl, hk12⟩
  have HV12 : Hid (Vg 5 w w12 p J mvE) := hid (HV11.out.same hk12)
  clear HC hk12 HV11
  go_wp2_with fail
  obtain ⟨w13, hw13⟩ : ∃ W, W = w12.alloc (.cells #[.string ⟨#[116]⟩, .string ⟨#[97]⟩, .string ⟨#[121]⟩, .bool true, .string ⟨#[50]⟩] 51) := ⟨_, rfl⟩
  obtain ⟨wb, hwb⟩ : ∃ x, x = w12.heap.size := ⟨_, rfl⟩
  have HB13 : Hid (Blk w13 wb #[.string ⟨#[116]⟩, .string ⟨#[97]⟩, .string ⟨#[121]⟩, .bool true, .string ⟨#[50]⟩] 51) := hid (by rw [hw13, hwb]; exact Blk.new w12 _ _)
  have HV13 : Hid (Vg 5 w w13 p J mvE) := hid (HV12.out.same (by rw [hw13]; exact (Kept.refl _ _).alloc _))
  rw [← hw13, ← hwb]
  clear hw13 hwb HV12
  refine (xvwrites HV13.out.1).mono ?_
  rintro e w14 ⟨v, xs, rfl, hst, hrow, hk14, -⟩
  obtain rfl := hst.det stW_E
  have HV14 : Hid (Vg 5 w w14 p J mvE) := hid (HV13.out.same hk14)
  have HB14 := hid (HB13.out.kept hk14 (fun f => f))
  obtain ⟨a0, c0, hv, hrr⟩ := hrow.shape
  rw [show [wGx, wY2].length = 2 from rfl] at hv
  subst hv
  have HRW := hid hrow
  clear hst hk14 HV13 HB13 hrr hrow
  go_wp2_with fail
  refine (vkey_any _ _ _).mono ?_
  rintro e w15 ⟨rfl, hk15⟩
  have HC : Calls Try.prog 25 #[.int .i64 3, .agg #[.string ⟨#[116]⟩, .string ⟨#[97]⟩, .string ⟨#[120]⟩]] w15 _ := vcommit_any 3 kax w15 (by decide)
  have HK15 : Hid (Same w14 w15) := hk15
  clear hk15
  go_wp2_with fail
  refine HC.mono ?_
  rintro e w16 ⟨g1, rfl, hc1, hk16⟩
  have HK16 : Hid (Same w14 w16 ∧ CmOk w16 (fun _ => True) (cmO 3 g1 kax)) := hid ⟨HK15.out.trans hk16, hc1⟩
  clear HC hc1 hk16 HK15
  go_wp2_with fail
  refine (vkey_any _ _ _).mono ?_
  rintro e w17 ⟨rfl, hk17⟩
  have HC : Calls Try.prog 25 #[.int .i64 4, .agg #[.string ⟨#[116]⟩, .string ⟨#[97]⟩, .string ⟨#[113]⟩]] w17 _ := vcommit_any 4 kaq w17 (by decide)
  have HK17 : Hid (Same w14 w17 ∧ CmOk w17 (fun _ => True) (cmO 3 g1 kax)) := hid ⟨HK16.out.1.trans hk17, HK16.out.2.kept hk17 (fun _ _ _ f => f)⟩
  clear hk17 HK16
  go_wp2_with fail
  refine HC.mono ?_
  rintro e w18 ⟨g2, rfl, hc2, hk18⟩
  have HK18 : Hid (Same w14 w18 ∧ CmOk w18 (fun _ => True) (cmO 3 g1 kax) ∧ CmOk w18 (fun _ => True) (cmO 4 g2 kaq)) := hid ⟨HK17.out.1.trans hk18, HK17.out.2.kept hk18 (fun _ _ _ f => f), hc2⟩
  clear HC hc2 hk18 HK17
  go_wp2_with fail
  refine (vkey_any _ _ _).mono ?_
  rintro e w19 ⟨rfl, hk19⟩
  have HC : Calls Try.prog 25 #[.int .i64 6, .agg #[.string ⟨#[116]⟩, .string ⟨#[98]⟩, .string ⟨#[113]⟩]] w19 _ := vcommit_any 6 kbq w19 (by decide)
  have HK19 : Hid (Same w14 w19 ∧ CmOk w19 (fun _ => True) (cmO 3 g1 kax) ∧ CmOk w19 (fun _ => True) (cmO 4 g2 kaq)) := hid ⟨HK18.out.1.trans hk19, HK18.out.2.1.kept hk19 (fun _ _ _ f => f), HK18.out.2.2.kept hk19 (fun _ _ _ f => f)⟩
  clear hk19 HK18
  go_wp2_with fail
  refine HC.mono ?_
  rintro e w20 ⟨g3, rfl, hc3, hk20⟩
  obtain ⟨w21, hw21⟩ : ∃ W, W = w20.alloc (.cells #[.int .i64 3, .slice (some ⟨g1, 0, none⟩) 1 1, .int .i64 4, .slice (some ⟨g2, 0, none⟩) 1 1, .int .i64 6, .slice (some ⟨g3, 0, none⟩) 1 1] 45) := ⟨_, rfl⟩
  obtain ⟨gl, hgl⟩ : ∃ x, x = w20.heap.size := ⟨_, rfl⟩
  have HC2 : Calls Try.prog 19 #[.pointer (some ⟨p, 0, none⟩), .slice (some ⟨gl, 0, none⟩) 3 3] w21 fun e w' => e = .returned (.tuple #[.int .i64 2, .int .i64 0]) ∧ Vg 5 w w' p J mvE ∧ Same w14 w' := by
    have hk21 : Same w20 w21 := by rw [hw21]; exact (Kept.refl _ _).alloc _
    have hk := hk20.trans hk21
    have hV := HV14.out.same (HK19.out.1.trans hk)
    have hcs : Cms w21 (fun _ => True) (.slice (some ⟨gl, 0, none⟩) 3 3) [cmO 3 g1 kax, cmO 4 g2 kaq, cmO 6 g3 kbq] := cms_new (w := w21) (cs := [cmO 3 g1 kax, cmO 4 g2 kaq, cmO 6 g3 kbq]) (g := gl) (vs := #[.int .i64 3, .slice (some ⟨g1, 0, none⟩) 1 1, .int .i64 4, .slice (some ⟨g2, 0, none⟩) 1 1, .int .i64 6, .slice (some ⟨g3, 0, none⟩) 1 1]) (by rw [hw21, hgl]; exact Blk.new w20 _ _) rfl (fun c hc => by
      simp only [List.mem_cons, List.not_mem_nil, or_false] at hc
      rcases hc with rfl | rfl | rfl
      · exact HK19.out.2.1.kept hk (fun _ _ _ f => f)
      · exact HK19.out.2.2.kept hk (fun _ _ _ f => f)
      · exact hc3.kept hk21 (fun _ _ _ f => f)) (by simp)
    have h9 := xvcheck hV.1 _ _ _ hcs
    rw [chk_E1] at h9
    exact h9.mono (fun e w' h => ⟨h.1, hV.same h.2, (HK19.out.1.trans hk).trans h.2⟩)
  clear HC hc3 hk20 HK19 HV14
  go_wp2_with fail
  rw [← hw21, ← hgl]
  clear hw21 hgl
  refine HC2.mono ?_
  rintro e w22 ⟨rfl, hv22, hk22⟩
  have HV22 : Hid (Vg 5 w w22 p J mvE ∧ Same w14 w22) := hid ⟨hv22, hk22⟩
  clear HC2 hv22 hk22
  go_wp2_with fail
  refine (vkey_any _ _ _).mono ?_
  rintro e w23 ⟨rfl, hk23⟩
  have HC : Calls Try.prog 25 #[.int .i64 4, .agg #[.string ⟨#[116]⟩, .string ⟨#[97]⟩, .string ⟨#[113]⟩]] w23 _ := vcommit_any 4 kaq w23 (by decide)
  have HK23 : Hid (Same w22 w23) := hk23
  clear hk23
  go_wp2_with fail
  refine HC.mono ?_
  rintro e w24 ⟨g4, rfl, hc4, hk24⟩
  have HK24 : Hid (Same w22 w24 ∧ CmOk w24 (fun _ => True) (cmO 4 g4 kaq)) := hid ⟨HK23.out.trans hk24, hc4⟩
  clear HC hc4 hk24 HK23
  go_wp2_with fail
  refine (vkey_any _ _ _).mono ?_
  rintro e w25 ⟨rfl, hk25⟩
  have HC : Calls Try.prog 25 #[.int .i64 4, .agg #[.string ⟨#[116]⟩, .string ⟨#[97]⟩, .string ⟨#[113]⟩]] w25 _ := vcommit_any 4 kaq w25 (by decide)
  have HK25 : Hid (Same w22 w25 ∧ CmOk w25 (fun _ => True) (cmO 4 g4 kaq)) := hid ⟨HK24.out.1.trans hk25, HK24.out.2.kept hk25 (fun _ _ _ f => f)⟩
  clear hk25 HK24
  go_wp2_with fail
  refine HC.mono ?_
  rintro e w26 ⟨g5, rfl, hc5, hk26⟩
  obtain ⟨w27, hw27⟩ : ∃ W, W = w26.alloc (.cells #[.int .i64 4, .slice (some ⟨g4, 0, none⟩) 1 1, .int .i64 4, .slice (some ⟨g5, 0, none⟩) 1 1] 45) := ⟨_, rfl⟩
  obtain ⟨gl, hgl⟩ : ∃ x, x = w26.heap.size := ⟨_, rfl⟩
  have HC2 : Calls Try.prog 19 #[.pointer (some ⟨p, 0, none⟩), .slice (some ⟨gl, 0, none⟩) 2 2] w27 fun e w' => e = .returned (.tuple #[.int .i64 (-1), .int .i64 130]) ∧ Vg 5 w w' p J mvE ∧ Same w14 w' := by
    have hk27 : Same w26 w27 := by rw [hw27]; exact (Kept.refl _ _).alloc _
    have hk := hk26.trans hk27
    have hV := HV22.out.1.same (HK25.out.1.trans hk)
    have hcs : Cms w27 (fun _ => True) (.slice (some ⟨gl, 0, none⟩) 2 2) [cmO 4 g4 kaq, cmO 4 g5 kaq] := cms_new (w := w27) (cs := [cmO 4 g4 kaq, cmO 4 g5 kaq]) (g := gl) (vs := #[.int .i64 4, .slice (some ⟨g4, 0, none⟩) 1 1, .int .i64 4, .slice (some ⟨g5, 0, none⟩) 1 1]) (by rw [hw27, hgl]; exact Blk.new w26 _ _) rfl (fun c hc => by
      simp only [List.mem_cons, List.not_mem_nil, or_false] at hc
      rcases hc with rfl | rfl
      · exact HK25.out.2.kept hk (fun _ _ _ f => f)
      · exact hc5.kept hk27 (fun _ _ _ f => f)) (by simp)
    have h9 := xvcheck hV.1 _ _ _ hcs
    rw [chk_E2] at h9
    exact h9.mono (fun e w' h => ⟨h.1, hV.same h.2, (HV22.out.2.trans (HK25.out.1.trans hk)).trans h.2⟩)
  clear HC hc5 hk26 HK25 HV22
  go_wp2_with fail
  rw [← hw27, ← hgl]
  clear hw27 hgl
  refine HC2.mono ?_
  rintro e w28 ⟨rfl, hv28, hk28⟩
  have HV28 : Hid (Vg 5 w w28 p J mvE) := hid hv28
  have hb28 := HB14.out.kept hk28 (fun f => f)
  have hr28 := HRW.out.kept hk28 (fun _ _ f => f)
  clear HC2 hv28 HB14 HRW hk28
  obtain ⟨b0, rfl⟩ : ∃ b0, a0 = some ⟨b0, 0, none⟩ := by
    rcases hr28.2 with ⟨h9, _⟩ | ⟨g, cap, cur, h9, _⟩
    · cases h9
    · simp only [Value.slice.injEq] at h9
      exact ⟨g, h9.1⟩
  have d0 : w28.cell? ⟨wb, 0, none⟩ = some (.string ⟨#[116]⟩) := hb28.cell 0
  have d1 : w28.cell? ⟨wb, 1, none⟩ = some (.string ⟨#[97]⟩) := hb28.cell 1
  have d2 : w28.cell? ⟨wb, 2, none⟩ = some (.string ⟨#[121]⟩) := hb28.cell 2
  have d3 : w28.cell? ⟨wb, 3, none⟩ = some (.bool true) := hb28.cell 3
  have d4 : w28.cell? ⟨wb, 4, none⟩ = some (.string ⟨#[50]⟩) := hb28.cell 4
  have e0 : w28.cell? ⟨b0, 0, none⟩ = some (.string ⟨#[116]⟩) := RowC.cell wrE_ok hr28 0 0 (by decide) (by decide)
  have e1 : w28.cell? ⟨b0, 1, none⟩ = some (.string ⟨#[97]⟩) := RowC.cell wrE_ok hr28 0 1 (by decide) (by decide)
  have e2 : w28.cell? ⟨b0, 2, none⟩ = some (.string ⟨#[120]⟩) := RowC.cell wrE_ok hr28 0 2 (by decide) (by decide)
  have e3 : w28.cell? ⟨b0, 3, none⟩ = some (.bool false) := RowC.cell wrE_ok hr28 0 3 (by decide) (by decide)
  have e4 : w28.cell? ⟨b0, 4, none⟩ = some (.string ⟨#[]⟩) := RowC.cell wrE_ok hr28 0 4 (by decide) (by decide)
  clear hb28 hr28
  go_upto_region 13 with fail
  go_region_held3 (fun w' => (w'.cell? ⟨wb, 0, none⟩ = some (.string ⟨#[116]⟩) ∧ w'.cell? ⟨wb, 1, none⟩ = some (.string ⟨#[97]⟩) ∧ w'.cell? ⟨wb, 2, none⟩ = some (.string ⟨#[121]⟩) ∧ w'.cell? ⟨wb, 3, none⟩ = some (.bool true) ∧ w'.cell? ⟨wb, 4, none⟩ = some (.string ⟨#[50]⟩)) ∧ w'.cell? ⟨b0, 0, none⟩ = some (.string ⟨#[116]⟩) ∧ w'.cell? ⟨b0, 1, none⟩ = some (.string ⟨#[97]⟩) ∧ w'.cell? ⟨b0, 2, none⟩ = some (.string ⟨#[120]⟩) ∧ w'.cell? ⟨b0, 3, none⟩ = some (.bool false) ∧ w'.cell? ⟨b0, 4, none⟩ = some (.string ⟨#[]⟩))
    (first
      | (go_split_ands; exact ⟨⟨hkk.cell (by assumption) (fun f => f), hkk.cell (by assumption) (fun f => f), hkk.cell (by assumption) (fun f => f), hkk.cell (by assumption) (fun f => f), hkk.cell (by assumption) (fun f => f)⟩, hkk.cell (by assumption) (fun f => f), hkk.cell (by assumption) (fun f => f), hkk.cell (by assumption) (fun f => f), hkk.cell (by assumption) (fun f => f), hkk.cell (by assumption) (fun f => f)⟩)
      | go_keep)
    (first
      | (go_at_call 24; refine (vkey_any _ _ _).mono ?_; rintro e wk ⟨rfl, hkk⟩; have HKK : Hid (Same w28 wk) := hid (by first | exact HKK.out.trans hkk | exact Kept.undrewV hkk | exact hkk)))
  have HV29 : Hid (Vg 5 w wk p J mvE) := hid (HV28.out.same HKK.out)
  clear d0 d1 d2 d3 d4 e0 e1 e2 e3 e4 hkk HKK HV28
  go_wp2_with fail
  refine (vkey_any _ _ _).mono ?_
  rintro e w30 ⟨rfl, hk30⟩
  have HC : Calls Try.prog 25 #[.int .i64 4, .agg #[.string ⟨#[116]⟩, .string ⟨#[97]⟩, .string ⟨#[120]⟩]] w30 _ := vcommit_any 4 kax w30 (by decide)
  have HV30 : Hid (Vg 5 w w30 p J mvE) := hid (HV29.out.same hk30)
  clear hk30 HV29
  go_wp2_with fail
  refine HC.mono ?_
  rintro e w31 ⟨g6, rfl, hc6, hk31⟩
  have HV31 : Hid (Vg 5 w w31 p J mvE) := hid (HV30.out.same hk31)
  have HC2 : Calls Try.prog 13 #[.pointer (some ⟨p, 0, none⟩), .agg #[.int .i64 4, .slice (some ⟨g6, 0, none⟩) 1 1]] w31 fun e w' => e = .returned (.bool true) ∧ Same w31 w' := by
    have h9 := xvclash HV31.out.1 4 _ _ _ hc6.src hc6.big
    rw [show claM mvE 4 (cmO 4 g6 kax).ws = true from cla_E1 g6] at h9
    exact h9
  clear HC hc6 hk31 HV30
  go_wp2_with fail
  refine HC2.mono ?_
  rintro e w32 ⟨rfl, hk32⟩
  have HV32 : Hid (Vg 5 w w32 p J mvE) := hid (HV31.out.same hk32)
  clear HC2 hk32 HV31
  go_wp2_with fail
  refine (vkey_any _ _ _).mono ?_
  rintro e w33 ⟨rfl, hk33⟩
  have HC : Calls Try.prog 25 #[.int .i64 3, .agg #[.string ⟨#[116]⟩, .string ⟨#[97]⟩, .string ⟨#[120]⟩]] w33 _ := vcommit_any 3 kax w33 (by decide)
  have HV33 : Hid (Vg 5 w w33 p J mvE) := hid (HV32.out.same hk33)
  clear hk33 HV32
  go_wp2_with fail
  refine HC.mono ?_
  rintro e w34 ⟨g7, rfl, hc7, hk34⟩
  have HV34 : Hid (Vg 5 w w34 p J mvE) := hid (HV33.out.same hk34)
  have HC2 : Calls Try.prog 13 #[.pointer (some ⟨p, 0, none⟩), .agg #[.int .i64 3, .slice (some ⟨g7, 0, none⟩) 1 1]] w34 fun e w' => e = .returned (.bool false) ∧ Same w34 w' := by
    have h9 := xvclash HV34.out.1 3 _ _ _ hc7.src hc7.big
    rw [show claM mvE 3 (cmO 3 g7 kax).ws = false from cla_E2 g7] at h9
    exact h9
  clear HC hc7 hk34 HV33
  go_wp2_with fail
  refine HC2.mono ?_
  rintro e w35 ⟨rfl, hk35⟩
  have HV35 : Hid (Same w w35) := hid (HV34.out.2.2.trans hk35)
  clear HC2 hk35 HV34
  go_wp2_with fail
  go_ret
  exact ⟨rfl, HV35.out⟩

end Go.Proofs.Ytlfibbghkdbomaa
