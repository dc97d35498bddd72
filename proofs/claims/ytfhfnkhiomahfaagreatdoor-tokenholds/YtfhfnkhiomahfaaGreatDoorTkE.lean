/-
  Layer 16: Parse.
-/
import Derived.Test.YtfhfnkhiomahfaaGreatDoorTkD
namespace Go.Proofs.YtfhfnkhiomahfaaGreatDoor
open Go.RowKit Go.Shelf

section
variable {P : Program}
theorem run_neq_op {x y : Operand} {ty ty2 : TypeId} {dst : Option Tmp} {tp : TypeId} {pos : String} {af : Array Edge} {gd : Option (Nat × Bool)} {a : Act} {s t : ByteArray} (hx : a.eval x = .string s) (hy : a.eval y = .string t) {b : Bool} (hb : b = !decide (s = t)) {W : World} :
    (execOp a.eval { dst := dst, op := .binOp .neq ty x y ty2, type := tp, pos := pos, after := af, guard := gd }).run P W = .ok (.value (.bool b)) W := by
  have h : (s.toList == t.toList) = decide (s = t) := by
    rw [Lib.toList_data, Lib.toList_data]
    by_cases h : s = t
    · subst h; simp
    · have : ¬ s.data.toList = t.data.toList := fun e => h (data_inj e)
      rw [decide_eq_false h]
      simpa using this
  unfold execOp
  simp only [hx, hy]
  go_simp
end

/-- What Parse answers. -/
def ParA (l : List UInt8) (e : Ending) : Prop :=
  (∃ (t : ByteArray) (u s : Nat) (m : List UInt8), ParR l t u s m ∧ e = .returned (.tuple #[clV t u s, .string (tx6 m), .int .i64 0])) ∨ ((∀ t u s m, ¬ ParR l t u s m) ∧ e = .returned (.tuple #[clV ⟨#[]⟩ 0 0, .string ⟨#[]⟩, .int .i64 160]))

/-- Parse gives up: what has been written. -/
theorem par_refuse {w w9 : World} {xb : Nat} (hw : Same w w9) (hxb : w.heap.size ≤ xb) {a0 a1 a2 x0 x1 x2 : Value} {t : TypeId} (hb : Blk w9 xb #[a0, a1, a2] t) : Same w (((w9.setCell ⟨xb, 0, none⟩ x0).setCell ⟨xb, 1, none⟩ x1).setCell ⟨xb, 2, none⟩ x2) :=
  hw.then (set16 hb).2 (fun k hk e => by omega)

theorem list4 {α : Type} {l : List α} (h : l.length = 4) : ∃ a b c d, l = [a, b, c, d] := by
  match l, h with
  | [a, b, c, d], _ => exact ⟨a, b, c, d, rfl⟩

theorem par_prog {l : List UInt8} {p0 p1 p2 p3 : ByteArray} (h4 : splC l = [p0.data.toList, p1.data.toList, p2.data.toList, p3.data.toList]) :
    (∀ t u s m, ParR l t u s m → isM p3.data.toList = true ∧ mayB p0 (atR p1.data.toList) (atR p2.data.toList) = true ∧ bodI p0 (atR p1.data.toList) (atR p2.data.toList) = p0.data.toList ++ 46 :: (p1.data.toList ++ 46 :: p2.data.toList)) := by
  intro t u s m h
  have e := h4.symm.trans h.spl
  simp only [List.cons.injEq, and_true] at e
  obtain ⟨e0, e1, e2, e3⟩ := e
  have e0' := data_inj e0
  subst e0'
  have hu := h.1.2.1
  have hs := h.1.2.2
  rw [e1, e2, e3, atR_dec u (by omega), atR_dec s (by omega)]
  refine ⟨h.2.1, mayB_iff.2 h.1, ?_⟩
  rw [bodI_nat]
  rfl

theorem par_good {l : List UInt8} {p0 p1 p2 p3 : ByteArray} (h4 : splC l = [p0.data.toList, p1.data.toList, p2.data.toList, p3.data.toList]) (hi : isM p3.data.toList = true) (hm : mayB p0 (atR p1.data.toList) (atR p2.data.toList) = true) (hb : bodI p0 (atR p1.data.toList) (atR p2.data.toList) = p0.data.toList ++ 46 :: (p1.data.toList ++ 46 :: p2.data.toList)) :
    ∃ u s : Nat, atR p1.data.toList = (u : Int) ∧ atR p2.data.toList = (s : Int) ∧ ParR l p0 u s p3.data.toList := by
  have hm' := mayB_iff.1 hm
  obtain ⟨u, hu⟩ : ∃ u : Nat, atR p1.data.toList = (u : Int) := ⟨(atR p1.data.toList).toNat, by have := hm'.2.1; omega⟩
  obtain ⟨s, hs⟩ : ∃ s : Nat, atR p2.data.toList = (s : Int) := ⟨(atR p2.data.toList).toNat, by have := hm'.2.2; omega⟩
  refine ⟨u, s, hu, hs, ?_⟩
  rw [hu, hs] at hm' hb
  rw [bodI_nat] at hb
  unfold bodL at hb
  have hp := par_of h4
  have h1 := (List.append_cancel_left hb)
  simp only [List.cons.injEq, true_and] at h1
  have h2 := cut6 h1 (dec6_pt u) hp.2.2.1
  exact par_mk h4 h2.1.symm h2.2.symm hm' hi

theorem splC_len (l : List UInt8) : ∀ p ∈ splC l, p.length ≤ l.length := by
  induction l with
  | nil => intro p hp; simp [splC] at hp; subst hp; simp
  | cons c r ih =>
    intro p hp
    by_cases hc : c = 46
    · rw [splC, if_pos hc] at hp
      rcases List.mem_cons.1 hp with rfl | hp
      · simp
      · have := ih p hp; simp; omega
    · obtain ⟨q, qs, hq⟩ := splC_ne r
      rw [splC_cons hc hq] at hp
      rcases List.mem_cons.1 hp with rfl | hp
      · have := ih q (by rw [hq]; simp); simp; omega
      · have := ih p (by rw [hq]; simp [hp]); simp; omega

set_option maxRecDepth 100000 in
set_option maxHeartbeats 1000000 in
theorem parse_any (w : World) (h : W6 w) (s : ByteArray) : Calls Tryz.prog 12 #[.string s] w fun e w' => ParA s.data.toList e ∧ Same w w' := by
  obtain ⟨W1, hW1⟩ : ∃ W, W = w.alloc (.cells #[.string ⟨#[]⟩, .int .i64 0, .int .i64 0] 23) := ⟨_, rfl⟩
  obtain ⟨xb, hxb⟩ : ∃ b, b = w.heap.size := ⟨_, rfl⟩
  have HK1 : Hid (Same w W1 ∧ w.heap.size ≤ xb) := hid ⟨by rw [hW1]; exact (Kept.refl _ w).alloc _, by omega⟩
  have HB : Hid (Blk W1 xb #[.string ⟨#[]⟩, .int .i64 0, .int .i64 0] 23) := hid (by rw [hW1, hxb]; exact Blk.new w _ _)
  have HSL : Hid (s.data.toList.length = s.size) := hid Array.length_toList
  by_cases h256 : 256 < s.size
  · have HN : Hid (∀ t u s' m, ¬ ParR s.data.toList t u s' m) := hid (fun t u s' m hp => by have := hp.len; have := HSL.out; omega)
    have b1 : (256 : Int) < (s.size : Int) := by omega
    obtain ⟨y0, y1, y2, z0, z1, z2⟩ := HB.out.c3
    clear h256 h
    go_enter Tryz.func12, Tryz.ntmps12
    go_upto_region 1 with fail
    rw [← hW1, ← hxb]
    clear hW1 hxb
    go_wp2_with fail
    refine bodyPost_ret (v := .tuple #[clV ⟨#[]⟩ 0 0, .string ⟨#[]⟩, .int .i64 160]) (by rw [results_16 (p := 2) (a := 3) (b := 4) (ty := 23) rfl _ _ _ _ _ ⟨xb, 0, none⟩ _ rfl (loadC16 (set16 HB.out).1)]; rfl) rfl ?_
    exact ⟨.inr ⟨HN.out, rfl⟩, par_refuse HK1.out.1 HK1.out.2 HB.out⟩
  · have b1 : (s.size : Int) ≤ 256 := by omega
    have b1' : decide ((256 : Int) < (s.size : Int)) = false := by simp; omega
    have HS256 : Hid (s.size ≤ 256) := hid (by omega)
    have HSP := split6_any W1 (h.same HK1.out.1) s (by omega)
    have HSC := hid (prts6_spl s)
    obtain ⟨ps, hps⟩ : ∃ ps, ps = prts6 s := ⟨_, rfl⟩
    obtain ⟨n, hn⟩ : ∃ n, n = ps.length := ⟨_, rfl⟩
    obtain ⟨g, hg⟩ : ∃ g, g = W1.heap.size := ⟨_, rfl⟩
    rw [← hps] at HSP HSC
    rw [← hn, ← hg] at HSP
    have HG : Hid (xb < g) := hid (by rw [hg]; exact HB.out.lt)
    have HW := hid h
    clear h256 h hps hg
    by_cases h4 : n = 4
    case neg =>
      have b2 : ((n : Int) == 4) = false := by simp; omega
      have b3 : (n == 4) = false := by simpa using h4
      have b4 : ((n : Int) != 4) = true := by simp; omega
      have HN : Hid (∀ t u s' m, ¬ ParR s.data.toList t u s' m) := hid (fun t u s' m hp => by
        have e := HSC.out.trans hp.spl
        have e2 := congrArg List.length e
        simp only [List.length_map, List.length_cons, List.length_nil] at e2
        omega)
      clear h4 hn
      go_enter Tryz.func12, Tryz.ntmps12
      go_upto_region 1 with fail
      rw [← hW1, ← hxb]
      clear hW1 hxb
      go_wp2_with fail
      refine HSP.mono ?_
      rintro e w2 ⟨rfl, _, hk2⟩
      have HB2 := hid (HB.out.kept hk2 (fun f => f))
      have HK2 := hid (Same.trans HK1.out.1 hk2)
      obtain ⟨y0, y1, y2, z0, z1, z2⟩ := HB2.out.c3
      clear hk2 HSP HB
      go_wp2_with fail
      refine bodyPost_ret (v := .tuple #[clV ⟨#[]⟩ 0 0, .string ⟨#[]⟩, .int .i64 160]) (by rw [results_16 (p := 2) (a := 3) (b := 4) (ty := 23) rfl _ _ _ _ _ ⟨xb, 0, none⟩ _ rfl (loadC16 (set16 HB2.out).1)]; rfl) rfl ?_
      exact ⟨.inr ⟨HN.out, rfl⟩, par_refuse HK2.out HK1.out.2 HB2.out⟩
    case pos =>
      subst h4
      obtain ⟨p0, p1, p2, p3, e4⟩ := list4 hn.symm
      subst e4
      simp only [List.map_cons, List.map_nil] at HSC HSP
      have HPZ : Hid (p0.size ≤ 256 ∧ p1.size ≤ 256 ∧ p2.size ≤ 256 ∧ p3.size ≤ 256) := hid (by
        have h1 := splC_len s.data.toList
        rw [← HSC.out, HSL.out] at h1
        have q : ∀ p : ByteArray, p.data.toList.length = p.size := fun p => Array.length_toList
        have a0 := h1 p0.data.toList (by simp)
        have a1 := h1 p1.data.toList (by simp)
        have a2 := h1 p2.data.toList (by simp)
        have a3 := h1 p3.data.toList (by simp)
        have a4 := HS256.out
        rw [q] at a0 a1 a2 a3
        omega)
      have HPP := hid (par_prog HSC.out.symm)
      have HPG := hid (par_good HSC.out.symm)
      have HIM : Hid (∀ W, Calls Tryz.prog 31 #[.string p3] W fun e w' => e = .returned (.bool (isM p3.data.toList)) ∧ Same W w') := hid (fun W => isMac_any W p3)
      obtain ⟨im, him⟩ : ∃ b, b = isM p3.data.toList := ⟨_, rfl⟩
      rw [← him] at HIM HPP HPG
      clear hn him
      go_enter Tryz.func12, Tryz.ntmps12
      go_upto_region 1 with fail
      rw [← hW1, ← hxb]
      clear hW1 hxb
      go_wp2_with fail
      refine HSP.mono ?_
      rintro e w2 ⟨rfl, hb2, hk2⟩
      have HB2 := hid (HB.out.kept hk2 (fun f => f))
      have HK2 := hid (Same.trans HK1.out.1 hk2)
      have HR2 := hid hb2
      have c3 := hb2.cell 3
      simp only [List.getElem?_toArray, List.getElem?_cons_zero, List.getElem?_cons_succ] at c3
      clear hk2 hb2 HSP HB
      go_wp2_with fail
      refine (HIM.out _).mono ?_
      rintro e w3 ⟨rfl, hk3⟩
      have HB3 := hid (HB2.out.kept hk3 (fun f => f))
      have HK3 := hid (Same.trans HK2.out hk3)
      have HR3 := hid (HR2.out.kept hk3 (fun f => f))
      clear hk3 HB2 HK2 HR2 c3
      cases im with
      | false =>
        obtain ⟨y0, y1, y2, z0, z1, z2⟩ := HB3.out.c3
        go_wp2_with fail
        refine bodyPost_ret (v := .tuple #[clV ⟨#[]⟩ 0 0, .string ⟨#[]⟩, .int .i64 160]) (by rw [results_16 (p := 2) (a := 3) (b := 4) (ty := 23) rfl _ _ _ _ _ ⟨xb, 0, none⟩ _ rfl (loadC16 (set16 HB3.out).1)]; rfl) rfl ?_
        exact ⟨.inr ⟨fun t u s' m hp => (by have := (HPP.out t u s' m hp).1; cases this), rfl⟩, par_refuse HK3.out HK1.out.2 HB3.out⟩
      | true =>
        have c1 := HR3.out.cell 1
        simp only [List.getElem?_toArray, List.getElem?_cons_zero, List.getElem?_cons_succ] at c1
        have HA1 := atoi6_any w3 (HW.out.same HK3.out) p1 (by have := HPZ.out; omega)
        go_wp2_with fail
        refine HA1.mono ?_
        rintro e w4 ⟨⟨ev1, rfl⟩, hk4⟩
        have HB4 := hid (HB3.out.kept hk4 (fun f => f))
        have HK4 := hid (Same.trans HK3.out hk4)
        have HR4 := hid (HR3.out.kept hk4 (fun f => f))
        have c2 := HR4.out.cell 2
        simp only [List.getElem?_toArray, List.getElem?_cons_zero, List.getElem?_cons_succ] at c2
        have HA2 := atoi6_any w4 (HW.out.same HK4.out) p2 (by have := HPZ.out; omega)
        obtain ⟨u, hu⟩ : ∃ u, u = atR p1.data.toList := ⟨_, rfl⟩
        obtain ⟨v, hv⟩ : ∃ u, u = atR p2.data.toList := ⟨_, rfl⟩
        have HUB : Hid ((-9223372036854775808 ≤ u ∧ u ≤ 9223372036854775807) ∧ (-9223372036854775808 ≤ v ∧ v ≤ 9223372036854775807)) := hid ⟨by rw [hu]; exact atR_bounds _, by rw [hv]; exact atR_bounds _⟩
        rw [← hu, ← hv] at HPP HPG
        rw [← hu]
        rw [← hv] at HA2
        clear hk4 HB3 HK3 HR3 c1 HA1 hu hv
        go_wp2_with fail
        refine HA2.mono ?_
        rintro e w5 ⟨⟨ev2, rfl⟩, hk5⟩
        have HB5 := hid (HB4.out.kept hk5 (fun f => f))
        have HK5 := hid (Same.trans HK4.out hk5)
        have HR5 := hid (HR4.out.kept hk5 (fun f => f))
        have c0 := HR5.out.cell 0
        simp only [List.getElem?_toArray, List.getElem?_cons_zero] at c0
        clear hk5 HB4 HK4 HR4 c2 HA2
        obtain ⟨W6', hW6'⟩ : ∃ W, W = w5.alloc (.cells #[.string p0, .int .i64 u, .int .i64 v] 23) := ⟨_, rfl⟩
        obtain ⟨cb, hcb⟩ : ∃ b, b = w5.heap.size := ⟨_, rfl⟩
        have hk6 : Same w5 W6' := by rw [hW6']; exact (Kept.refl _ w5).alloc _
        have HC6 : Hid (Blk W6' cb #[.string p0, .int .i64 u, .int .i64 v] 23) := hid (by rw [hW6', hcb]; exact Blk.new w5 _ _)
        have HX6 : Hid (xb < cb) := hid (by rw [hcb]; exact HB5.out.lt)
        have HB6 := hid (HB5.out.kept hk6 (fun f => f))
        have HK6 := hid (Same.trans HK5.out hk6)
        have HR6 := hid (HR5.out.kept hk6 (fun f => f))
        clear hk6
        go_upto_region 9 with fail
        rw [← hW6', ← hcb]
        clear hW6' hcb HB5 HK5 HR5 c0
        have HLD : Hid (∀ W, Same W6' W → (loadVar 23 ⟨cb, 0, none⟩).run Tryz.prog W = .ok (clV p0 u v) W) := hid (fun W hW => loadC16 (HC6.out.kept hW (fun f => f)))
        obtain ⟨cv, hcv⟩ : ∃ c, c = clV p0 u v := ⟨_, rfl⟩
        obtain ⟨mb, hmb⟩ : ∃ b, b = mayB p0 u v := ⟨_, rfl⟩
        have HMB : Hid (∀ W, Calls Tryz.prog 24 #[cv] W fun e w' => e = .returned (.bool mb) ∧ Same W w') := hid (fun W => by rw [hcv]; exact mayBe_any W p0 u v mb hmb.symm)
        have HBO : Hid (∀ W, Same W6' W → Calls Tryz.prog 25 #[cv] W fun e w' => e = .returned (.string (tx6 (bodI p0 u v))) ∧ Same W w') := hid (fun W hW => by rw [hcv]; exact body_any W (HW.out.same (Same.trans HK6.out hW)) p0 u v (by have := HPZ.out; omega) HUB.out.1 HUB.out.2)
        have HJO : Hid (∀ W, Same W6' W → Calls Tryz.prog 33 #[.slice (some ⟨g, 0, none⟩) 3 4, .string ⟨#[46]⟩] W fun e w' => e = .returned (.string (tx6 (p0.data.toList ++ 46 :: (p1.data.toList ++ 46 :: p2.data.toList)))) ∧ Same W w') := hid (fun W hW => by
          have hb := HR6.out.kept hW (fun f => f)
          exact join6_any W g 4 p0 p1 p2 ⟨hb.cell 0, hb.cell 1, hb.cell 2⟩ hb.lt (by omega) (by have := HPZ.out; omega) (by have := HPZ.out; omega) (by have := HPZ.out; omega))
        rw [← hcv] at HLD
        rw [← hmb] at HPP HPG
        have hcv2 : Value.agg #[.string p0, .int .i64 u, .int .i64 v] = cv := hcv.symm
        obtain ⟨bt, hbt⟩ : ∃ b, b = bodI p0 u v := ⟨_, rfl⟩
        obtain ⟨jt, hjt⟩ : ∃ b, b = p0.data.toList ++ 46 :: (p1.data.toList ++ 46 :: p2.data.toList) := ⟨_, rfl⟩
        rw [← hbt] at HBO HPP HPG
        rw [← hjt] at HJO HPP HPG
        have HCV := hid hcv
        clear hcv hmb hbt hjt
        rw [hcv2]
        clear hcv2
        refine wp_region_same (by kernel_rfl) (by kernel_rfl) ?_
        refine wpq_value rfl cv (fun W hW => run_load_op _ rfl (HLD.out W hW)) ?_
        simp only [Act.put, List.setIfInBounds_toArray, List.set_cons_zero, List.set_cons_succ]
        refine wpq_call rfl 24 #[cv] (.bool mb) (fun W => by go_simp) (calls_same (fun W _ => HMB.out W)) ?_
        simp only [Act.put, List.setIfInBounds_toArray, List.set_cons_zero, List.set_cons_succ]
        refine wpq_value rfl (.bool !mb) (fun W _ => by go_simp) ?_
        simp only [Act.put, List.setIfInBounds_toArray, List.set_cons_zero, List.set_cons_succ]
        refine wpq_value rfl (.bool !mb) (fun W _ => rfl) ?_
        simp only [Act.put, List.setIfInBounds_toArray, List.set_cons_zero, List.set_cons_succ]
        cases mb with
        | false =>
          iterate 6
            refine wpq_not rfl ?_
            simp only [Act.put, List.setIfInBounds_toArray, List.set_cons_zero, List.set_cons_succ]
          refine wpq_value rfl (.bool true) (fun W _ => rfl) ?_
          simp only [Act.put, List.setIfInBounds_toArray, List.set_cons_zero, List.set_cons_succ]
          refine wpQuiet_nil ?_
          intro w9 hk9
          have HB9 := hid (HB6.out.kept hk9 (fun f => f))
          have HK9 := hid (Same.trans HK6.out hk9)
          obtain ⟨y0, y1, y2, z0, z1, z2⟩ := HB9.out.c3
          clear hk9
          go_wp2_with fail
          refine bodyPost_ret (v := .tuple #[clV ⟨#[]⟩ 0 0, .string ⟨#[]⟩, .int .i64 160]) (by rw [results_16 (p := 2) (a := 3) (b := 4) (ty := 23) rfl _ _ _ _ _ ⟨xb, 0, none⟩ _ rfl (loadC16 (set16 HB9.out).1)]; rfl) rfl ?_
          exact ⟨.inr ⟨fun t u s' m hp => (by have := (HPP.out t u s' m hp).2.1; cases this), rfl⟩, par_refuse HK9.out HK1.out.2 HB9.out⟩
        | true =>
          obtain ⟨ne, hne⟩ : ∃ b, b = !decide (tx6 bt = tx6 jt) := ⟨_, rfl⟩
          refine wpq_value rfl cv (fun W hW => run_load_op _ rfl (HLD.out W hW)) ?_
          simp only [Act.put, List.setIfInBounds_toArray, List.set_cons_zero, List.set_cons_succ]
          refine wpq_call rfl 25 #[cv] (.string (tx6 bt)) (fun W => by go_simp) (calls_same HBO.out) ?_
          simp only [Act.put, List.setIfInBounds_toArray, List.set_cons_zero, List.set_cons_succ]
          refine wpq_value rfl (.slice (some ⟨g, 0, none⟩) 4 4) (fun W _ => rfl) ?_
          simp only [Act.put, List.setIfInBounds_toArray, List.set_cons_zero, List.set_cons_succ]
          refine wpq_value rfl (.slice (some ⟨g, 0, none⟩) 3 4) (fun W _ => by go_simp) ?_
          simp only [Act.put, List.setIfInBounds_toArray, List.set_cons_zero, List.set_cons_succ]
          refine wpq_call rfl 33 #[.slice (some ⟨g, 0, none⟩) 3 4, .string ⟨#[46]⟩] (.string (tx6 jt)) (fun W => by go_simp) (calls_same HJO.out) ?_
          simp only [Act.put, List.setIfInBounds_toArray, List.set_cons_zero, List.set_cons_succ]
          refine wpq_value rfl (.bool ne) (fun W _ => run_neq_op rfl rfl hne) ?_
          simp only [Act.put, List.setIfInBounds_toArray, List.set_cons_zero, List.set_cons_succ]
          refine wpq_value rfl (.bool ne) (fun W _ => rfl) ?_
          simp only [Act.put, List.setIfInBounds_toArray, List.set_cons_zero, List.set_cons_succ]
          refine wpQuiet_nil ?_
          intro w9 hk9
          have HB9 := hid (HB6.out.kept hk9 (fun f => f))
          have HC9 := hid (HC6.out.kept hk9 (fun f => f))
          have HR9 := hid (HR6.out.kept hk9 (fun f => f))
          have HK9 := hid (Same.trans HK6.out hk9)
          obtain ⟨y0, y1, y2, z0, z1, z2⟩ := HB9.out.c3
          clear hk9
          by_cases hq : tx6 bt = tx6 jt
          · obtain rfl : ne = false := by rw [hne, decide_eq_true hq]; rfl
            have hq2 : bt = jt := by rw [← tx6_data bt, ← tx6_data jt, hq]
            have HG9 := hid (HPG.out (by simp) (by simp) hq2)
            obtain ⟨c0, c1, c2, _, _, _⟩ := HC9.out.c3
            have c3 := HR9.out.cell 3
            simp only [List.getElem?_toArray, List.getElem?_cons_zero, List.getElem?_cons_succ] at c3
            clear hq hq2 hne
            go_wp2_with fail
            go_region
            go_wp2_with fail
            refine bodyPost_ret (v := .tuple #[clV p0 u v, .string p3, .int .i64 0]) (by rw [results_16 (p := 2) (a := 3) (b := 4) (ty := 23) rfl _ _ _ _ _ ⟨xb, 0, none⟩ _ rfl (loadC16 ((set16 (x0 := .string p0) (x1 := .int .i64 u) (x2 := .int .i64 v) HB9.out).1.kept (show Same _ (World.drew _) from (Kept.refl _ _).drew) (fun f => f)))]; rfl) rfl ?_
            obtain ⟨u', s', hu', hs', hp⟩ := HG9.out
            exact ⟨.inl ⟨p0, u', s', p3.data.toList, hp, by rw [hu', hs', tx6_of]⟩, (par_refuse HK9.out HK1.out.2 HB9.out).drew⟩
          · obtain rfl : ne = true := by rw [hne, decide_eq_false hq]; rfl
            clear hne
            go_wp2_with fail
            refine bodyPost_ret (v := .tuple #[clV ⟨#[]⟩ 0 0, .string ⟨#[]⟩, .int .i64 160]) (by rw [results_16 (p := 2) (a := 3) (b := 4) (ty := 23) rfl _ _ _ _ _ ⟨xb, 0, none⟩ _ rfl (loadC16 (set16 HB9.out).1)]; rfl) rfl ?_
            exact ⟨.inr ⟨fun t u s' m hp => hq (congrArg tx6 (HPP.out t u s' m hp).2.2), rfl⟩, par_refuse HK9.out HK1.out.2 HB9.out⟩

theorem parse_ok (w : World) (h : W6 w) (x : ByteArray) {t : ByteArray} {u s : Nat} {m : List UInt8} (hp : ParR x.data.toList t u s m) : Calls Tryz.prog 12 #[.string x] w fun e w' => e = .returned (.tuple #[clV t u s, .string (tx6 m), .int .i64 0]) ∧ Same w w' :=
  (parse_any w h x).mono fun e w' ⟨ha, hk⟩ => by
    rcases ha with ⟨t', u', s', m', hp', rfl⟩ | ⟨hn, _⟩
    · obtain ⟨rfl, rfl, rfl, rfl⟩ := hp.det hp'
      exact ⟨rfl, hk⟩
    · exact absurd hp (hn _ _ _ _)

theorem parse_no (w : World) (h : W6 w) (x : ByteArray) (hn : ∀ t u s m, ¬ ParR x.data.toList t u s m) : Calls Tryz.prog 12 #[.string x] w fun e w' => e = .returned (.tuple #[clV ⟨#[]⟩ 0 0, .string ⟨#[]⟩, .int .i64 160]) ∧ Same w w' :=
  (parse_any w h x).mono fun e w' ⟨ha, hk⟩ => by
    rcases ha with ⟨t', u', s', m', hp', _⟩ | ⟨_, rfl⟩
    · exact absurd hp' (hn _ _ _ _)
    · exact ⟨rfl, hk⟩

end Go.Proofs.YtfhfnkhiomahfaaGreatDoor
