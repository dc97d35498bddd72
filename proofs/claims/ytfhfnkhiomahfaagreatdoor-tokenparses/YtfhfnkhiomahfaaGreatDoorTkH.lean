/-
  Layer 16: Check.
-/
import Derived.Test.YtfhfnkhiomahfaaGreatDoorTkG
namespace Go.Proofs.YtfhfnkhiomahfaaGreatDoor
open Go.RowKit Go.Maps Go.Shelf

/-- The secret of a name. -/
def secG (T : List (Nm × ByteArray)) (t : ByteArray) : Option ByteArray := if h : t.size ≤ maxLen then getG ⟨t, h⟩ T else none

/-- Is a number revoked? -/
def revG (R : List (Nb × Unit)) (s : Nat) : Bool := R.any (fun p => decide (p.1.v = (s : Int)))

theorem getG_rev (R : List (Nb × Unit)) (z : Nb) (s : Nat) (h : z.v = (s : Int)) : (getG z R).isSome = revG R s := by
  unfold revG
  cases hg : getG z R with
  | none =>
    symm
    show R.any _ = false
    rw [List.any_eq_false]
    intro p hp
    have := getG_none hg hp
    simp only [decide_eq_true_eq]
    intro e
    exact this (Nb.ext' (by rw [e, h]))
  | some f =>
    symm
    show R.any _ = true
    rw [List.any_eq_true]
    exact ⟨_, getG_mem hg, by simpa using h⟩

def noC (e : Int) : Value := .tuple #[clV ⟨#[]⟩ 0 0, .int .i64 e]

/-- What Check says of a claim and its digits. -/
def chkV (t : ByteArray) (u s : Nat) (m : List UInt8) (sec : Option ByteArray) (rv : Bool) (now : Int) : Value :=
  match sec with
  | none => noC 161
  | some k => if m = macL k (bodL t u s) then (if (u : Int) < now then noC 162 else if rv = true then noC 163 else .tuple #[clV t u s, .int .i64 0]) else noC 161

theorem chkV_mac {t : ByteArray} {u s : Nat} {m : List UInt8} {k : ByteArray} {rv : Bool} {now : Int} (h : ¬ m = macL k (bodL t u s)) : chkV t u s m (some k) rv now = noC 161 := by simp [chkV, h]
theorem chkV_old {t : ByteArray} {u s : Nat} {m : List UInt8} {k : ByteArray} {rv : Bool} {now : Int} (h : m = macL k (bodL t u s)) (hn : (u : Int) < now) : chkV t u s m (some k) rv now = noC 162 := by simp [chkV, ← h, hn]
theorem chkV_in {t : ByteArray} {u s : Nat} {m : List UInt8} {k : ByteArray} {rv : Bool} {now : Int} (h : m = macL k (bodL t u s)) (hn : ¬ (u : Int) < now) : chkV t u s m (some k) rv now = if rv = true then noC 163 else .tuple #[clV t u s, .int .i64 0] := by simp only [chkV, ← h, hn, if_true, if_false]

/-- What Check answers. -/
def ChkA (l : List UInt8) (sec : ByteArray → Option ByteArray) (rev : Nat → Bool) (now : Int) (v : Value) : Prop :=
  ((∀ t u s m, ¬ ParR l t u s m) ∧ v = noC 160) ∨ ∃ (t : ByteArray) (u s : Nat) (m : List UInt8), ParR l t u s m ∧ v = chkV t u s m (sec t) (rev s) now

theorem ChkA.det {l : List UInt8} {sec sec' : ByteArray → Option ByteArray} {rev rev' : Nat → Bool} {now : Int} {v v' : Value} (h : ChkA l sec rev now v) (h' : ChkA l sec' rev' now v') (hs : ∀ t, sec t = sec' t) (hr : ∀ s, rev s = rev' s) : v = v' := by
  rcases h with ⟨hn, rfl⟩ | ⟨t, u, s, m, hp, rfl⟩
  · rcases h' with ⟨_, rfl⟩ | ⟨t', u', s', m', hp', _⟩
    · rfl
    · exact absurd hp' (hn _ _ _ _)
  · rcases h' with ⟨hn, _⟩ | ⟨t', u', s', m', hp', rfl⟩
    · exact absurd hp (hn _ _ _ _)
    · obtain ⟨rfl, rfl, rfl, rfl⟩ := hp.det hp'
      rw [hs, hr]

theorem check_nil (w : World) (x : ByteArray) (now : Int) : Calls Tryz.prog 21 #[.pointer none, .string x, .int .i64 now] w fun e w' => e = .returned (noC 3) ∧ Same w w' := by
  obtain ⟨W1, hW1⟩ : ∃ W, W = w.alloc (.cells #[.string ⟨#[]⟩, .int .i64 0, .int .i64 0] 23) := ⟨_, rfl⟩
  obtain ⟨xb, hxb⟩ : ∃ b, b = w.heap.size := ⟨_, rfl⟩
  have HK1 : Hid (Same w W1 ∧ w.heap.size ≤ xb) := hid ⟨by rw [hW1]; exact (Kept.refl _ w).alloc _, by omega⟩
  have HB : Hid (Blk W1 xb #[.string ⟨#[]⟩, .int .i64 0, .int .i64 0] 23) := hid (by rw [hW1, hxb]; exact Blk.new w _ _)
  obtain ⟨y0, y1, y2, z0, z1, z2⟩ := HB.out.c3
  go_enter Tryz.func21, Tryz.ntmps21
  go_upto_region 1 with fail
  rw [← hW1, ← hxb]
  clear hW1 hxb
  go_wp2_with fail
  refine bodyPost_ret (v := noC 3) (by rw [results_16b (p := 6) (b := 7) (ty := 23) rfl _ _ _ _ _ ⟨xb, 0, none⟩ _ rfl (loadC16 (set16 HB.out).1)]; rfl) rfl ?_
  exact ⟨rfl, par_refuse HK1.out.1 HK1.out.2 HB.out⟩

section
variable {w : World} {p mt mr n : Nat} {T : List (Nm × ByteArray)} {R : List (Nb × Unit)}

set_option maxRecDepth 100000 in
set_option maxHeartbeats 400000 in
theorem check_no (hW : W6 w) (x : ByteArray) (now : Int) (p : Nat) (hn : ∀ t u s m, ¬ ParR x.data.toList t u s m) : Calls Tryz.prog 21 #[.pointer (some ⟨p, 0, none⟩), .string x, .int .i64 now] w fun e w' => e = .returned (noC 160) ∧ Same w w' := by
  obtain ⟨W1, hW1⟩ : ∃ W, W = w.alloc (.cells #[.string ⟨#[]⟩, .int .i64 0, .int .i64 0] 23) := ⟨_, rfl⟩
  obtain ⟨xb, hxb⟩ : ∃ b, b = w.heap.size := ⟨_, rfl⟩
  have HK1 : Hid (Same w W1 ∧ w.heap.size ≤ xb) := hid ⟨by rw [hW1]; exact (Kept.refl _ w).alloc _, by omega⟩
  have HB : Hid (Blk W1 xb #[.string ⟨#[]⟩, .int .i64 0, .int .i64 0] 23) := hid (by rw [hW1, hxb]; exact Blk.new w _ _)
  have HP := parse_no W1 (hW.same HK1.out.1) x hn
  unfold clV at HP
  clear hn hW
  go_enter Tryz.func21, Tryz.ntmps21
  go_upto_region 1 with fail
  rw [← hW1, ← hxb]
  clear hW1 hxb
  go_wp2_with fail
  refine HP.mono ?_
  rintro e w2 ⟨rfl, hk2⟩
  obtain ⟨W3, hW3⟩ : ∃ W, W = w2.alloc (.cells #[.string ⟨#[]⟩, .int .i64 0, .int .i64 0] 23) := ⟨_, rfl⟩
  have hk3 : Same W1 W3 := by rw [hW3]; exact hk2.alloc _
  have HB3 := hid (HB.out.kept hk3 (fun f => f))
  have HK3 := hid (Same.trans HK1.out.1 hk3)
  obtain ⟨y0, y1, y2, z0, z1, z2⟩ := HB3.out.c3
  clear hk3 hk2 HP
  go_upto_region 4 with fail
  rw [← hW3]
  clear hW3
  go_wp2_with fail
  refine bodyPost_ret (v := noC 160) (by rw [results_16b (p := 6) (b := 7) (ty := 23) rfl _ _ _ _ _ ⟨xb, 0, none⟩ _ rfl (loadC16 (set16 HB3.out).1)]; rfl) rfl ?_
  exact ⟨rfl, par_refuse HK3.out HK1.out.2 HB3.out⟩

set_option maxRecDepth 100000 in
set_option maxHeartbeats 1000000 in
theorem check_par (hW : W6 w) (h : Bk w p mt mr T n R) (hT : ∀ y ∈ T, y.2.size ≤ 64) (x : ByteArray) (now : Int) {t : ByteArray} {u s : Nat} {m : List UInt8} (hp : ParR x.data.toList t u s m) : Calls Tryz.prog 21 #[.pointer (some ⟨p, 0, none⟩), .string x, .int .i64 now] w fun e w' => e = .returned (chkV t u s m (secG T t) (revG R s) now) ∧ Same w w' := by
  obtain ⟨W1, hW1⟩ : ∃ W, W = w.alloc (.cells #[.string ⟨#[]⟩, .int .i64 0, .int .i64 0] 23) := ⟨_, rfl⟩
  obtain ⟨xb, hxb⟩ : ∃ b, b = w.heap.size := ⟨_, rfl⟩
  have HK1 : Hid (Same w W1 ∧ w.heap.size ≤ xb) := hid ⟨by rw [hW1]; exact (Kept.refl _ w).alloc _, by omega⟩
  have HB : Hid (Blk W1 xb #[.string ⟨#[]⟩, .int .i64 0, .int .i64 0] 23) := hid (by rw [hW1, hxb]; exact Blk.new w _ _)
  have HP := parse_ok W1 (hW.same HK1.out.1) x hp
  have hts : t.size ≤ 16 := by have h1 := (sho_pt hp.1.1).2; have h2 : t.data.toList.length = t.size := Array.length_toList; omega
  have htl : t.size ≤ maxLen := by unfold maxLen; omega
  have hus := hp.1.2
  obtain ⟨tn, htn⟩ : ∃ tn : Nm, tn = ⟨t, htl⟩ := ⟨_, rfl⟩
  have htn' : tn.s = t := by rw [htn]
  have hsec : secG T t = getG tn T := by unfold secG; rw [dif_pos htl, htn]
  have HTS : Hid (t.size ≤ 16 ∧ u ≤ 1000000000 ∧ s ≤ 1000000000) := hid ⟨hts, by omega, by omega⟩
  have HW := hid hW
  have H := hid h
  have HT := hid hT
  rw [hsec]
  unfold clV at HP
  clear hsec htn hts htl hus hW h hT
  go_enter Tryz.func21, Tryz.ntmps21
  go_upto_region 1 with fail
  rw [← hW1, ← hxb]
  clear hW1 hxb
  go_wp2_with fail
  refine HP.mono ?_
  rintro e w2 ⟨rfl, hk2⟩
  obtain ⟨W3, hW3⟩ : ∃ W, W = w2.alloc (.cells #[.string t, .int .i64 (u : Nat), .int .i64 (s : Nat)] 23) := ⟨_, rfl⟩
  obtain ⟨cb, hcb⟩ : ∃ b, b = w2.heap.size := ⟨_, rfl⟩
  have hk3 : Same W1 W3 := by rw [hW3]; exact hk2.alloc _
  have HB3 := hid (HB.out.kept hk3 (fun f => f))
  have HC3 : Hid (Blk W3 cb #[.string t, .int .i64 (u : Nat), .int .i64 (s : Nat)] 23) := hid (by rw [hW3, hcb]; exact Blk.new w2 _ _)
  have HK3 := hid (Same.trans HK1.out.1 hk3)
  have H3 := hid (H.out.same HK3.out)
  have HXC : Hid (xb < cb) := hid (by rw [hcb]; exact (HB.out.kept hk2 (fun f => f)).lt)
  have hlk := MpH.look1 H3.out.ten tn
  have hlkd := MpH.look1 (H3.out.ten.kept (show Same W3 W3.drew from (Kept.refl _ _).drew) (fun f => f)) tn
  have hkA : Same W3 (W3.alloc (.cells #[.string ⟨#[]⟩] 74)).drew := ((Kept.refl _ W3).alloc _).drew
  have hlkA := MpH.look1 (H3.out.ten.kept hkA (fun f => f)) tn
  rw [htn'] at hlk hlkd hlkA
  have x0 := H3.out.blk.c3.1
  have c0 := HC3.out.c3.1
  have xA0 := (H3.out.blk.kept hkA (fun f => f)).c3.1
  have cA0 := (HC3.out.kept hkA (fun f => f)).c3.1
  clear hk3 hk2 HP hkA
  go_upto_region 4 with fail
  rw [← hW3, ← hcb]
  clear hW3 hcb
  cases hg : getG tn T with
  | none =>
    rw [hg] at hlk hlkd hlkA
    simp only [Option.elim, Option.isSome, hoV] at hlk hlkd hlkA
    obtain ⟨W4, hW4⟩ : ∃ W, W = (W3.alloc (.cells #[.string ⟨#[]⟩] 74)).drew := ⟨_, rfl⟩
    have hk4 : Same W3 W4 := by rw [hW4]; exact ((Kept.refl _ W3).alloc _).drew
    have HB4 := hid (HB3.out.kept hk4 (fun f => f))
    have HK4 := hid (Same.trans HK3.out hk4)
    have HG := hid hg
    clear hk4 hg
    go_wp2_with fail
    go_region
    all_goals
      rw [← hW4]
      obtain ⟨y0, y1, y2, z0, z1, z2⟩ := HB4.out.c3
      clear hW4 hlk hlkd hlkA x0 c0 xA0 cA0
      go_wp2_with fail
      refine bodyPost_ret (v := noC 161) (by rw [results_16b (p := 6) (b := 7) (ty := 23) rfl _ _ _ _ _ ⟨xb, 0, none⟩ _ rfl (loadC16 (set16 HB4.out).1)]; rfl) rfl ?_
      exact ⟨by rw [HG.out]; rfl, par_refuse HK4.out HK1.out.2 HB4.out⟩
  | some k =>
    rw [hg] at hlk hlkd hlkA
    simp only [Option.elim, Option.isSome, hoV] at hlk hlkd hlkA
    have hkk : k.size ≤ 64 := HT.out _ (getG_mem hg)
    obtain ⟨W4, hW4⟩ : ∃ W, W = (W3.alloc (.cells #[.string k] 74)).drew := ⟨_, rfl⟩
    obtain ⟨hb, hhb⟩ : ∃ b, b = W3.heap.size := ⟨_, rfl⟩
    have hk4 : Same W3 W4 := by rw [hW4]; exact ((Kept.refl _ W3).alloc _).drew
    have HB4 := hid (HB3.out.kept hk4 (fun f => f))
    have HC4 := hid (HC3.out.kept hk4 (fun f => f))
    have HH4 : Hid (Blk W4 hb #[.string k] 74) := hid (by rw [hW4, hhb]; exact (Blk.new W3 _ _).kept (show Same _ (World.drew _) from (Kept.refl _ _).drew) (fun f => f))
    have HK4 := hid (Same.trans HK3.out hk4)
    have H4 := hid (H3.out.same hk4)
    have HM := mac_any W4 (HW.out.same HK4.out) t u s k (by omega) (by have := HTS.out; omega) (by have := HTS.out; omega) (by have := HTS.out; omega)
    rw [bodI_nat] at HM
    unfold clV at HM
    obtain ⟨mm, hmm⟩ : ∃ l, l = macL k (bodL t u s) := ⟨_, rfl⟩
    have HMM := hid hmm
    rw [← hmm] at HM
    have HG := hid hg
    clear hk4 hg hmm hkk
    go_wp2_with fail
    go_region
    all_goals
      rw [← hW4, ← hhb]
      obtain ⟨c0', c1', c2', _, _, _⟩ := HC4.out.c3
      have h0' := HH4.out.c1.1
      clear hW4 hhb hlk hlkd hlkA x0 c0 xA0 cA0
      go_wp2_with fail
      refine HM.mono ?_
      rintro e w5 ⟨rfl, hk5⟩
      have HB5 := hid (HB4.out.kept hk5 (fun f => f))
      have HC5 := hid (HC4.out.kept hk5 (fun f => f))
      have HK5 := hid (Same.trans HK4.out hk5)
      have H5 := hid (H4.out.same hk5)
      clear hk5 HM c0' c1' c2' h0'
      have hq : ((tx6 m).toList == (tx6 mm).toList) = decide (m = mm) := by
        rw [Lib.toList_data, Lib.toList_data, tx6_data, tx6_data]
        by_cases e : m = mm
        · subst e; simp
        · rw [decide_eq_false e]; simpa using e
      by_cases hmq : m = mm
      case neg =>
        rw [decide_eq_false hmq] at hq
        obtain ⟨y0, y1, y2, z0, z1, z2⟩ := HB5.out.c3
        have HV : Hid (chkV t u s m (some k) (revG R s) now = noC 161) := hid (chkV_mac (by rw [← HMM.out]; exact hmq))
        clear hmq
        go_wp2_with fail
        refine bodyPost_ret (v := noC 161) (by rw [results_16b (p := 6) (b := 7) (ty := 23) rfl _ _ _ _ _ ⟨xb, 0, none⟩ _ rfl (loadC16 (set16 HB5.out).1)]; rfl) rfl ?_
        exact ⟨by rw [HG.out, HV.out], par_refuse HK5.out HK1.out.2 HB5.out⟩
      case pos =>
        rw [decide_eq_true hmq] at hq
        have c1 := HC5.out.c3.2.1
        by_cases hnow : (u : Int) < now
        · obtain ⟨y0, y1, y2, z0, z1, z2⟩ := HB5.out.c3
          have HV : Hid (chkV t u s m (some k) (revG R s) now = noC 162) := hid (chkV_old (by rw [← HMM.out]; exact hmq) hnow)
          clear hmq
          go_wp2_with fail
          refine bodyPost_ret (v := noC 162) (by rw [results_16b (p := 6) (b := 7) (ty := 23) rfl _ _ _ _ _ ⟨xb, 0, none⟩ _ rfl (loadC16 (set16 HB5.out).1)]; rfl) rfl ?_
          exact ⟨by rw [HG.out, HV.out], par_refuse HK5.out HK1.out.2 HB5.out⟩
        · have hnow' : decide ((u : Int) < now) = false := decide_eq_false hnow
          obtain ⟨z, hz⟩ : ∃ z : Nb, z.v = (s : Int) := ⟨⟨s, by have := HTS.out; simp [Lit.wf, IntKind.min, IntKind.max, IntKind.signed, IntKind.bits]; omega⟩, rfl⟩
          have hrv := getG_rev R z s hz
          have hkA : Same w5 (w5.alloc (.cells #[] 83)).drew := ((Kept.refl _ w5).alloc _).drew
          have hl1 := MpN.look1 H5.out.rev z
          have hl2 := MpN.look1 (H5.out.rev.kept (show Same w5 w5.drew from (Kept.refl _ _).drew) (fun f => f)) z
          have hl3 := MpN.look1 (H5.out.rev.kept hkA (fun f => f)) z
          obtain ⟨rv, hrv2⟩ : ∃ b, b = revG R s := ⟨_, rfl⟩
          rw [hz, hrv, ← hrv2] at hl1 hl2 hl3
          have x2 := H5.out.blk.c3.2.2.1
          have c2 := HC5.out.c3.2.2.1
          have xA2 := (H5.out.blk.kept hkA (fun f => f)).c3.2.2.1
          have cA2 := (HC5.out.kept hkA (fun f => f)).c3.2.2.1
          obtain ⟨W6', hW6'⟩ : ∃ W, W = (w5.alloc (.cells #[] 83)).drew := ⟨_, rfl⟩
          have HB6 : Hid (Blk W6' xb #[.string ⟨#[]⟩, .int .i64 0, .int .i64 0] 23) := hid (by rw [hW6']; exact HB5.out.kept hkA (fun f => f))
          have HC6 : Hid (Blk W6' cb #[.string t, .int .i64 (u : Nat), .int .i64 (s : Nat)] 23) := hid (by rw [hW6']; exact HC5.out.kept hkA (fun f => f))
          have HK6 : Hid (Same w W6') := hid (by rw [hW6']; exact Same.trans HK5.out hkA)
          have HV : Hid (chkV t u s m (some k) (revG R s) now = if rv = true then noC 163 else .tuple #[clV t u s, .int .i64 0]) := hid (by rw [hrv2]; exact chkV_in (by rw [← HMM.out]; exact hmq) hnow)
          clear hkA hz hrv hrv2 hmq hnow
          go_wp2_with fail
          go_region
          all_goals
            rw [← hW6']
            obtain ⟨y0, y1, y2, z0, z1, z2⟩ := HB6.out.c3
            clear hW6' hl1 hl2 hl3 x2 c2 xA2 cA2 c1
            cases rv with
            | true =>
              go_wp2_with fail
              refine bodyPost_ret (v := noC 163) (by rw [results_16b (p := 6) (b := 7) (ty := 23) rfl _ _ _ _ _ ⟨xb, 0, none⟩ _ rfl (loadC16 (set16 HB6.out).1)]; rfl) rfl ?_
              exact ⟨by rw [HG.out, HV.out]; rfl, par_refuse HK6.out HK1.out.2 HB6.out⟩
            | false =>
              obtain ⟨d0, d1, d2, _, _, _⟩ := HC6.out.c3
              go_wp2_with fail
              refine bodyPost_ret (v := .tuple #[clV t u s, .int .i64 0]) (by rw [results_16b (p := 6) (b := 7) (ty := 23) rfl _ _ _ _ _ ⟨xb, 0, none⟩ _ rfl (loadC16 (set16 HB6.out).1)]; rfl) rfl ?_
              exact ⟨by rw [HG.out, HV.out]; rfl, par_refuse HK6.out HK1.out.2 HB6.out⟩

end

end Go.Proofs.YtfhfnkhiomahfaaGreatDoor
