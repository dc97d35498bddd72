/-
  Layer 12: Put of a commit that is new.
-/
import Derived.Test.YthignkloecfcbaaChI
namespace Go.Proofs.Ythignkloecfcbaa
open Go.RowKit Go.Maps Go.Sort

theorem ExtC.low {w w' : World} {ρ ρ' : Nat → Nat} (h : ExtC w' ρ ρ') (hs : w.heap.size ≤ w'.heap.size) : ExtC w ρ ρ' := fun k => (h k).imp id (fun e => ⟨by omega, e.2⟩)

theorem ExtC.zero {w : World} {ρ ρ' : Nat → Nat} (h : ExtC w ρ ρ') {k : Nat} (hk : k < w.heap.size) (h0 : ρ k = 0) : ρ' k = 0 := by
  rcases h k with h1 | h1
  · rw [h1]; exact h0
  · omega

theorem Ck.zero {K N : Nat} {w : World} {p : Nat} {s : Cs} {ρ : Nat → Nat} {mb : Nat} (h : Ck K N w p s ρ mb) {k : Nat} (hk : w.heap.size ≤ k) : ρ k = 0 := by
  cases hz : ρ k with
  | zero => rfl
  | succ q => have := (h.new k (by omega)).2; omega

theorem verOf_ok (x : Wr) (t : Int) : ((verOf x t).there = false → (verOf x t).data = ⟨#[]⟩) ∧ (verOf x t).data.size ≤ maxLen := by
  unfold verOf
  split
  · exact ⟨fun e => (by cases e), x.ok⟩
  · exact ⟨fun _ => rfl, Nat.zero_le _⟩

theorem putsF_snoc (f : Vs) (ws : List Wr) (x : Wr) (t : Int) : putsF f (ws ++ [x]) t = putF (putsF f ws t) x t := by
  unfold putsF
  rw [List.foldl_append]
  rfl

set_option maxRecDepth 100000 in
set_option maxHeartbeats 4000000 in
theorem cput_new {K N : Nat} {w : World} {p : Nat} {s : Cs} {ρ : Nat → Nat} {mb : Nat} (h : Ck K N w p s ρ mb) (hN : N ≤ w.heap.size) (t : Int) (ht : s.now < t) (ht2 : t ≤ 9223372036854775807) (ws : List Wr) (v : Value) (I : Nat → Prop) (hs : SrcC 5 wrE w I v ws) (hI : ∀ j, I j → ρ j = 0) (hK : K + 3 * ws.length ≤ 100000) :
    Calls Try.prog 16 #[.pointer (some ⟨p, 0, none⟩), .agg #[.int .i64 t, v]] w fun e w' => e = .returned (.int .i64 0) ∧ PuA K N w p s ρ mb t ws w' := by
  have b1 : decide (t ≤ s.now) = false := by simp; omega
  obtain ⟨ao, cap, hv, hcap, _⟩ := id hs
  obtain ⟨L, hL⟩ : ∃ L, L = ws.length := ⟨_, rfl⟩
  rw [← hL] at hv
  subst hv
  have HSR : Hid (SrcC 5 wrE w I (.slice ao L cap) ws) := hs
  have HL : Hid (L = ws.length) := hL
  obtain ⟨wA, hwA⟩ : ∃ W, W = w.alloc (.cells #[.int .i64 t, .slice ao L cap] 34) := ⟨_, rfl⟩
  have hka : Same w wA := by rw [hwA]; exact (Kept.refl _ w).alloc _
  obtain ⟨xb, hxb⟩ : ∃ x, x = w.heap.size := ⟨_, rfl⟩
  have BA : Hid (Blk wA xb #[.int .i64 t, .slice ao L cap] 34) := hid (by rw [hwA, hxb]; exact Blk.new w _ _)
  have x0 := BA.out.cell 0
  have x1 := BA.out.cell 1
  have p0 : wA.cell? ⟨p, 0, none⟩ = some (.int .i64 s.now) := (h.same hka).blk.cell 0
  have zp := (h.same hka).blk.frozen 0
  simp at x0 x1
  have HC : Hid (Ck K N w p s ρ mb) := h
  have HKA : Hid (Same w wA) := hka
  have HQ : Hid (N ≤ w.heap.size ∧ s.now < t ∧ t ≤ 9223372036854775807 ∧ K + 3 * ws.length ≤ 100000 ∧ xb = w.heap.size) := hid ⟨hN, ht, ht2, hK, hxb⟩
  have HI : Hid (∀ j, I j → ρ j = 0) := hI
  have HXP : Hid (¬ xb = p) := hid (fun e => by have := h.blk.lt; omega)
  have hL9 : L ≤ 100000 := by omega
  clear h hN ht ht2 hs hI hK hka hcap hL
  go_enter Try.func16, Try.ntmps16
  go_upto_region 3 with fail
  rw [← hwA, ← hxb]
  clear hwA hxb
  go_region
  obtain ⟨wB, hwB⟩ : ∃ W, W = (wA.setCell ⟨p, 0, none⟩ (.int .i64 t)).drew := ⟨_, rfl⟩
  have hkB : Kept (· = p) wA wB := by rw [hwB]; exact ((Kept.refl (· = p) wA).setCell _ _ (.inl rfl)).drew
  have hpB : Blk wB p #[.int .i64 t, .int .i64 s.floor, .map (some mb)] 70 := by
    rw [hwB]
    have h9 := (HC.out.same HKA.out).blk.set 0 (.int .i64 t)
    have h8 : Blk (wA.setCell ⟨p, 0, none⟩ (.int .i64 t)) p #[.int .i64 t, .int .i64 s.floor, .map (some mb)] 70 := by simpa using h9
    exact h8
  have HCB : Hid (Ck K N wB p { s with now := t } ρ mb) := hid ((HC.out.same HKA.out).setNow (by have := HQ.out; omega) HQ.out.2.2.1 hpB hkB)
  have HBX : Hid (Blk wB xb #[.int .i64 t, .slice ao L cap] 34) := hid (BA.out.kept hkB HXP.out)
  have HKB : Hid (Kept (· = p) w wB) := hid (Kept.trans HKA.out hkB (fun _ _ f => f.elim) (fun _ _ e => e))
  have HSB : Hid (SrcC 5 wrE wB I (.slice ao L cap) ws) := hid (HSR.out.kept wrE_ok HKB.out (fun j hj hlt e => by have := HI.out j hj; rw [e, HC.out.rp] at this; cases this))
  have x1B := HBX.out.cell 1
  simp at x1B
  have HX0 : Hid (ρ xb = 0) := hid (HC.out.zero (by have := HQ.out; omega))
  have x1B' : (wA.setCell ⟨p, 0, none⟩ (.int .i64 t)).cell? ⟨xb, 1, none⟩ = some (.slice ao L cap) := by have := x1B; rw [hwB] at this; exact this
  have HSZ : Hid (w.heap.size ≤ wB.heap.size) := hid HKB.out.size
  have HXL : Hid (xb < wB.heap.size) := hid HBX.out.lt
  clear hkB hpB
  go_wp2_with fail
  rw [← hwB]
  clear hwB x1B' x1B x0 x1 p0 zp
  go_loopg [24] L (fun q z24 wr => ∃ (i : Nat) (si : Cs) (ρi : Nat → Nat), L - i ≤ q ∧ i ≤ L ∧ z24 = .int .i64 (i : Nat) ∧ Hid (Ck (K + 3 * i) N wr p si ρi mb ∧ vers si = putsF (vers s) (ws.take i) t ∧ si.now = t ∧ si.floor = s.floor ∧ ExtC wB ρ ρi ∧ Kept (fun k => ρ k ≠ 0) wB wr))
  case atStart => exact ⟨0, { s with now := t }, ρ, by omega, by omega, rfl, hid ⟨HCB.out, rfl, rfl, rfl, ExtC.refl _ _, Kept.refl _ _⟩⟩
  case round =>
    obtain ⟨i, si, ρi, hq, hi, rfl, HR⟩ := hrel
    by_cases hlt : i < L
    · have hzx : ρi xb = 0 := HR.out.2.2.2.2.1.zero HXL.out HX0.out
      have hbx : Blk wr xb #[.int .i64 t, .slice ao L cap] 34 := HBX.out.kept HR.out.2.2.2.2.2 (fun e => e HX0.out)
      obtain ⟨b, o, e1, _, hcell⟩ : ∃ b o, ao = some ⟨b, o, none⟩ ∧ True ∧ ∀ j (_ : j < ws.length) m (_ : m < 5), wr.cell? ⟨b, o + (j * 5 + m), none⟩ = (wrE ws[j])[m]? := by
        obtain ⟨ao', cap', e1, _, e2⟩ := HSB.out.kept wrE_ok HR.out.2.2.2.2.2 (fun j hj _ e => e (HI.out j hj))
        injection e1 with e3 _ _
        subst e3
        obtain ⟨b, o, e4, _, e5⟩ := e2 (by intro e; have := HL.out; rw [e] at this; simp at this; omega)
        exact ⟨b, o, e4, trivial, e5⟩
      subst e1
      have hiw : i < ws.length := by have := HL.out; omega
      obtain ⟨x, hx⟩ : ∃ x, x = ws[i] := ⟨_, rfl⟩
      have f0 := hcell i hiw 0 (by decide)
      have f1 := hcell i hiw 1 (by decide)
      have f2 := hcell i hiw 2 (by decide)
      have f3 := hcell i hiw 3 (by decide)
      have f4 := hcell i hiw 4 (by decide)
      rw [← hx] at f0 f1 f2 f3 f4
      rw [Nat.add_zero] at f0
      rw [← Nat.add_assoc] at f1 f2 f3 f4
      have HXI : Hid (ws.take (i + 1) = ws.take i ++ [x]) := hid (by rw [List.take_succ_eq_append_getElem hiw, hx])
      obtain ⟨wG, hwG⟩ : ∃ W, W = wr.alloc (.cells #[.string x.b.tn, .string x.b.ar, .string x.n.s, .bool x.there, .string x.data] 49) := ⟨_, rfl⟩
      have hkG : Same wr wG := by rw [hwG]; exact (Kept.refl _ _).alloc _
      obtain ⟨g, hg⟩ : ∃ g, g = wr.heap.size := ⟨_, rfl⟩
      have hbg : Blk wG g #[.string x.b.tn, .string x.b.ar, .string x.n.s, .bool x.there, .string x.data] 49 := by rw [hwG, hg]; exact Blk.new wr _ _
      have hzg : ρi g = 0 := HR.out.1.zero (by omega)
      have HZ : Hid (¬ (ρi g ≠ 0) ∧ ¬ (ρi xb ≠ 0) ∧ g < wG.heap.size ∧ xb < wG.heap.size) := hid ⟨fun e => e hzg, fun e => e hzx, hbg.lt, Nat.lt_of_lt_of_le hbx.lt hkG.size⟩
      have HCG : Hid (Ck (K + 3 * i) N wG p si ρi mb) := hid (HR.out.1.same hkG)
      have hNG : N ≤ wG.heap.size := by have h1 := HQ.out.1; have h2 := HSZ.out; have h3 := HR.out.2.2.2.2.2.size; have h4 := hkG.size; omega
      have HNG : Hid (N ≤ wG.heap.size ∧ Same wr wG) := hid ⟨hNG, hkG⟩
      have HMD : Hid (∀ W, Same wG W → Calls Try.prog 38 #[.pointer (some ⟨p, 0, none⟩), .agg #[.string x.b.tn, .string x.b.ar, .string x.n.s]] W fun e w' => MdA (K + 3 * i + 2) N W p si ρi mb x.b x.n e w') := hid (fun W hk => made_any (HCG.out.same hk) (Nat.le_trans hNG hk.size) (by have := HQ.out.2.2.2.1; omega) x.b x.n)
      have HVO : Hid (∀ W, Calls Try.prog 40 #[.agg #[.string x.b.tn, .string x.b.ar, .string x.n.s, .bool x.there, .string x.data], .int .i64 t] W fun e w' => e = .returned (.agg #[.int .i64 (verOf x t).t, .bool (verOf x t).there, .string (verOf x t).data]) ∧ Same W w') := hid (fun W => versionOf_any W x t)
      have HPU : Hid (∀ W s2 ρ2 c, Ck (K + 3 * i + 2) N W p s2 ρ2 mb → fndC s2 x.b x.n = some c → s2.now = t → N ≤ W.heap.size → Calls Try.prog 39 #[.pointer (some ⟨c, 0, none⟩), .agg #[.int .i64 (verOf x t).t, .bool (verOf x t).there, .string (verOf x t).data]] W fun e w' => e = .returned (.tuple #[]) ∧ ∃ s' ρ', Ck (K + 3 * i + 2 + 1) N w' p s' ρ' mb ∧ (∀ b' n', vers s' b' n' = if b' = x.b ∧ n' = x.n then putV (vers s2 x.b x.n) (verOf x t) else vers s2 b' n') ∧ s'.now = s2.now ∧ s'.floor = s2.floor ∧ ExtC W ρ2 ρ' ∧ Kept (fun k => ρ2 k ≠ 0) W w') := hid (fun W s2 ρ2 c h1 h2 h3 h4 => put_any h1 h4 (by have := HQ.out.2.2.2.1; omega) h2 (verOf x t) (by rw [verOf_t]; have := HQ.out; have := HC.out.nums; omega) (by rw [verOf_t, h3]; exact Int.le_refl _) (verOf_ok x t).1 (verOf_ok x t).2)
      have c0 := hbg.cell 0
      have c1 := hbg.cell 1
      have c2 := hbg.cell 2
      have c3 := hbg.cell 3
      have c4 := hbg.cell 4
      have d0 := hkG.cell (hbx.cell 0) (fun f => f)
      simp at c0 c1 c2 c3 c4
      simp only [wrE, List.getElem?_cons_zero, List.getElem?_cons_succ] at f0 f1 f2 f3 f4
      have hli : (i : Int) < (L : Int) := by omega
      clear hcell hiw hx hkG hbg hzg hzx hbx hNG
      go_wp2_with fail
      rw [← hwG, ← hg]
      clear hwG hg f0 f1 f2 f3 f4
      have hs0 : Same wG wG := Kept.refl _ _
      go_region_held3 (fun w' => w'.cell? ⟨g, 0, none⟩ = some (.string x.b.tn) ∧ w'.cell? ⟨g, 1, none⟩ = some (.string x.b.ar) ∧ w'.cell? ⟨g, 2, none⟩ = some (.string x.n.s) ∧ w'.cell? ⟨g, 3, none⟩ = some (.bool x.there) ∧ w'.cell? ⟨g, 4, none⟩ = some (.string x.data) ∧ w'.cell? ⟨xb, 0, none⟩ = some (.int .i64 t))
        (first
          | (go_split_ands; exact ⟨hm7.cell (by assumption) HZ.out.1, hm7.cell (by assumption) HZ.out.1, hm7.cell (by assumption) HZ.out.1, hm7.cell (by assumption) HZ.out.1, hm7.cell (by assumption) HZ.out.1, hm7.cell (by assumption) HZ.out.2.1⟩)
          | (go_split_ands; exact ⟨hkv.cell (by assumption) (fun f => f), hkv.cell (by assumption) (fun f => f), hkv.cell (by assumption) (fun f => f), hkv.cell (by assumption) (fun f => f), hkv.cell (by assumption) (fun f => f), hkv.cell (by assumption) (fun f => f)⟩)
          | (go_split_ands; exact ⟨hp6.cell (by assumption) hzz.out.1, hp6.cell (by assumption) hzz.out.1, hp6.cell (by assumption) hzz.out.1, hp6.cell (by assumption) hzz.out.1, hp6.cell (by assumption) hzz.out.1, hp6.cell (by assumption) hzz.out.2⟩)
          | go_keep)
        (first
          | (go_at_call 38; refine (HMD.out _ (by first | exact hs0 | exact hs0.drew | exact hkv | exact Kept.undrewC hkv)).mono ?_; rintro e wm ⟨c, s2, ρ2, rfl, hm1, hm2, hm3, hm4, hm5, hm6, hm7⟩; have hzz : Hid (¬ (ρ2 g ≠ 0) ∧ ¬ (ρ2 xb ≠ 0)) := hid ⟨fun e => e (hm6.zero (by first | exact HZ.out.2.2.1 | exact Nat.lt_of_lt_of_le HZ.out.2.2.1 hkv.size) (Decidable.not_not.1 HZ.out.1)), fun e => e (hm6.zero (by first | exact HZ.out.2.2.2 | exact Nat.lt_of_lt_of_le HZ.out.2.2.2 hkv.size) (Decidable.not_not.1 HZ.out.2.1))⟩)
          | (go_at_call 40; refine (HVO.out _).mono ?_; rintro e wv ⟨rfl, hkv⟩)
          | (go_at_call 39; refine (HPU.out _ s2 ρ2 c (by first | exact hm1 | exact hm1.same hkv) hm2 (by rw [hm4]; exact HR.out.2.2.1) (by have h1 := HNG.out.1; have h2 := hm7.size; have h3 := hkv.size; first | omega | (simp at h1 h2 h3; omega) | (simp at h2 h3; omega) | (simp at h2; omega) | (simp at h3; omega))).mono ?_; rintro e wp ⟨rfl, s3, ρ3, hp1, hp2, hp3, hp4, hp5, hp6⟩))
      have HF : Hid (Ck (K + 3 * (i + 1)) N wp p s3 ρ3 mb ∧ vers s3 = putsF (vers s) (ws.take (i + 1)) t ∧ s3.now = t ∧ s3.floor = s.floor ∧ ExtC wB ρ ρ3 ∧ Kept (fun k => ρ k ≠ 0) wB wp) := hid (by
        have hr := HR.out
        have e1 : K + 3 * (i + 1) = K + 3 * i + 2 + 1 := by omega
        have s1 : wB.heap.size ≤ wr.heap.size := hr.2.2.2.2.2.size
        have s2' : wr.heap.size ≤ wG.heap.size := HNG.out.2.size
        have s3' : wG.drew.heap.size ≤ wm.heap.size := hm7.size
        have s4' : wm.heap.size ≤ wv.heap.size := hkv.size
        have k1 : Kept (fun k => ρi k ≠ 0) wr wm := Kept.trans HNG.out.2 (Kept.undrewC hm7) (fun _ _ f => f.elim) (fun _ _ e => e)
        have k2 : Kept (fun k => ρ2 k ≠ 0) wm wp := Kept.trans hkv hp6 (fun _ _ f => f.elim) (fun _ _ e => e)
        have x1 : ExtC wr ρi ρ2 := hm6.low s2'
        have x2 : ExtC wm ρ2 ρ3 := hp5.low s4'
        have x3 : ExtC wr ρi ρ3 := x1.trans x2 k1.size
        refine ⟨by rw [e1]; exact hp1, ?_, ?_, ?_, hr.2.2.2.2.1.trans x3 s1, hr.2.2.2.2.1.kept hr.2.2.2.2.2 (x1.kept k1 k2)⟩
        · rw [HXI.out, putsF_snoc, ← hr.2.1]
          funext b' n'
          rw [hp2]
          unfold putF
          by_cases e : b' = x.b ∧ n' = x.n
          · rw [if_pos e, if_pos e, hm3, e.1, e.2]
          · rw [if_neg e, if_neg e, hm3]
        · rw [hp3, hm4]; exact hr.2.2.1
        · rw [hp4, hm5]; exact hr.2.2.2.1)
      clear hm1 hm2 hm3 hm4 hm5 hm6 hm7 hzz hkv hp1 hp2 hp3 hp4 hp5 hp6 c0 c1 c2 c3 c4 d0
      have hii : (i : Int) + 1 = ((i + 1 : Nat) : Int) := by omega
      have HII := hid hii
      clear hii
      go_wp2_with fail
      go_roundg (gk - 1)
      case measure => omega
      case rel => exact ⟨i + 1, s3, ρ3, by omega, by omega, by go_num, HF⟩
    · have e : i = L := by omega
      have HF : Hid (PuA K N w p s ρ mb t ws wr) := hid (by
        have hr := HR.out
        rw [e] at hr
        refine ⟨si, ρi, by rw [← HL.out]; exact hr.1, ?_, hr.2.2.1, hr.2.2.2.1, hr.2.2.2.2.1.low HSZ.out, ?_⟩
        · rw [hr.2.1, HL.out, List.take_length]
        · exact Kept.trans HKB.out hr.2.2.2.2.2 (fun k _ e => by rw [e, HC.out.rp]; decide) (fun _ _ e => e))
      go_wp2_with fail
      go_ret
      exact ⟨rfl, HF.out⟩

end Go.Proofs.Ythignkloecfcbaa
