/-
  Of the proof: parts TxF, TxH, TxI.
-/
import Derived.Test.YtapcjmnibkoegaaGreatDoorJ39
import Derived.Test.YtapcjmnibkoegaaGreatDoorJ23

/-
  Layer 14: Put and Delete, of a manager.
-/
namespace Go.Proofs.YtapcjmnibkoegaaGreatDoor
open Go.RowKit Go.Maps Go.Sort Go.Shelf

/-- An entry of a transaction's tenant. -/
def keT (c : Tc) (q : Nat) (ar en : Nm) : Ke := (⟨(c.ow q).s, ar.s, ⟨(c.ow q).ok, ar.ok⟩⟩, en)

/-- May these be names? -/
def namT (ar en : Nm) : Bool := sho ar.s && nam8 (sb en.s)

theorem entA_none {c : Tc} {n : Nb} {ar en : Nm} (h : getK n c.L = none) : entA c n ar.s en.s = .tuple #[.pointer none, .agg #[.string ⟨#[]⟩, .string ⟨#[]⟩, .string ⟨#[]⟩], .int .i64 140] := by unfold entA; rw [h]
theorem entA_bad {c : Tc} {n : Nb} {q : Nat} {ar en : Nm} (h : getK n c.L = some q) (hn : namT ar en = false) : entA c n ar.s en.s = .tuple #[.pointer none, .agg #[.string ⟨#[]⟩, .string ⟨#[]⟩, .string ⟨#[]⟩], .int .i64 143] := by
  unfold entA; rw [h]; unfold namT at hn; simp only [hn]; rfl
theorem entA_good {c : Tc} {n : Nb} {q : Nat} {ar en : Nm} (h : getK n c.L = some q) (hn : namT ar en = true) : entA c n ar.s en.s = .tuple #[.pointer (some ⟨q, 0, none⟩), .agg #[.string (keT c q ar en).1.tn, .string (keT c q ar en).1.ar, .string (keT c q ar en).2.s], .int .i64 0] := by
  unfold entA; rw [h]; unfold namT at hn; simp only [hn]; rfl

/-- What a call that stages tells: by the transaction's set, the error and the set behind it. -/
def StgR (c : Tc) (n : Nb) (ar en : Nm) (f : Nat → Int × Mv) (m : Int) (c' : Tc) : Prop :=
  match getK n c.L with
  | none => m = 140 ∧ c' = c
  | some q => if namT ar en = true then m = (f q).1 ∧ c' = c.set q (f q).2 else m = 143 ∧ c' = c

/-- A call of a manager that leaves its store as it was. -/
def TgA (K N : Nat) (w : World) (p : Nat) (M : Mst) (bg : Int) (τ : Nat → Nat) (c' : Tc) (w' : World) : Prop := Tk (K + 1) N w' p M bg c' τ ∧ Kept (fun k => τ k ≠ 0) w w'

/-- What a call that stages leaves. -/
def StgA (K N : Nat) (w : World) (p : Nat) (M : Mst) (bg : Int) (τ : Nat → Nat) (c : Tc) (n : Nb) (ar en : Nm) (f : Nat → Int × Mv) (e : Ending) (w' : World) : Prop := ∃ m c', e = .returned (.int .i64 m) ∧ StgR c n ar en f m c' ∧ TgA K N w p M bg τ c' w'

section
variable {K N : Nat} {w : World} {p : Nat} {M : Mst} {bg : Int} {c : Tc} {τ : Nat → Nat}

theorem Tk.still (h : Tk K N w p M bg c τ) (hK : K + 1 ≤ 100000) {w' : World} (hk : Same w w') : TgA K N w p M bg τ c w' := ⟨(h.same hk).more (Nat.le_succ _) hK, hk.mono (fun _ _ f => f.elim)⟩

theorem Tc.set_self {q : Nat} : c.set q (c.mv q) = c := by
  unfold Tc.set
  have : (fun x => if x = q then c.mv q else c.mv x) = c.mv := funext fun x => by
    by_cases e : x = q
    · rw [if_pos e, e]
    · rw [if_neg e]
  rw [this]

theorem stg_none {n : Nb} {ar en : Nm} {f : Nat → Int × Mv} {w' : World} (hg : getK n c.L = none) (hT : TgA K N w p M bg τ c w') : StgA K N w p M bg τ c n ar en f (.returned (.int .i64 140)) w' := ⟨140, c, rfl, by unfold StgR; rw [hg]; exact ⟨rfl, rfl⟩, hT⟩
theorem stg_bad {n : Nb} {q : Nat} {ar en : Nm} {f : Nat → Int × Mv} {w' : World} (hg : getK n c.L = some q) (hn : namT ar en = false) (hT : TgA K N w p M bg τ c w') : StgA K N w p M bg τ c n ar en f (.returned (.int .i64 143)) w' := ⟨143, c, rfl, by unfold StgR; rw [hg]; show (if namT ar en = true then _ else _); rw [if_neg (by rw [hn]; decide)]; exact ⟨rfl, rfl⟩, hT⟩
theorem stg_at {n : Nb} {q : Nat} {ar en : Nm} {f : Nat → Int × Mv} {w' : World} (hg : getK n c.L = some q) (hn : namT ar en = true) {m : Int} {mv : Mv} (hf : f q = (m, mv)) (hT : TgA K N w p M bg τ (c.set q mv) w') : StgA K N w p M bg τ c n ar en f (.returned (.int .i64 m)) w' := ⟨m, c.set q mv, rfl, by unfold StgR; rw [hg]; simp only [hn, if_true, hf, and_self], hT⟩

set_option maxRecDepth 100000 in
set_option maxHeartbeats 2000000 in
theorem tput_any (h : Tk K N w p M bg c τ) (n : Nb) (ar en : Nm) (d : ByteArray) (hd : d.size ≤ maxLen) (hx : Mxl w) (hK : K + 1 ≤ 100000) : Calls Tryz.prog 28 #[.pointer (some ⟨p, 0, none⟩), .int .i64 n.v, .string ar.s, .string en.s, .string d] w fun e w' => StgA K N w p M bg τ c n ar en (fun q => if 8192 < d.size then (145, c.mv q) else (0, stM (c.mv q) ⟨(keT c q ar en).1, (keT c q ar en).2, true, d, hd⟩)) e w' := by
  have HE := tentry_any h n ar.s en.s hx
  have HT : Hid (Tk K N w p M bg c τ ∧ K + 1 ≤ 100000) := hid ⟨h, hK⟩
  obtain ⟨f, hf⟩ : ∃ f : Nat → Int × Mv, f = fun q => if 8192 < d.size then (145, c.mv q) else (0, stM (c.mv q) ⟨(keT c q ar en).1, (keT c q ar en).2, true, d, hd⟩) := ⟨_, rfl⟩
  rw [← hf]
  cases hg : getK n c.L with
  | none =>
    rw [entA_none hg] at HE
    have HG : Hid (getK n c.L = none) := hg
    clear h hx hK hg hf
    go_enter Tryz.func28, Tryz.ntmps28
    go_wp2_with fail
    refine HE.mono ?_
    rintro e w1 ⟨rfl, hk1⟩
    have HK1 : Hid (Same w w1) := hk1
    clear hk1 HE
    go_wp2_with fail
    go_ret
    exact stg_none HG.out (HT.out.1.still HT.out.2 (HK1.out.alloc _))
  | some q =>
    cases hn : namT ar en with
    | false =>
      rw [entA_bad hg hn] at HE
      have HG : Hid (getK n c.L = some q ∧ namT ar en = false) := hid ⟨hg, hn⟩
      clear h hx hK hg hn hf
      go_enter Tryz.func28, Tryz.ntmps28
      go_wp2_with fail
      refine HE.mono ?_
      rintro e w1 ⟨rfl, hk1⟩
      have HK1 : Hid (Same w w1) := hk1
      clear hk1 HE
      go_wp2_with fail
      go_ret
      exact stg_bad HG.out.1 HG.out.2 (HT.out.1.still HT.out.2 (HK1.out.alloc _))
    | true =>
      rw [entA_good hg hn] at HE
      obtain ⟨ky, hky⟩ : ∃ k, k = keT c q ar en := ⟨_, rfl⟩
      rw [← hky] at HE
      by_cases hl : 8192 < d.size
      · have b1 : (8192 : Int) < (d.size : Int) := by omega
        have HR : Hid (f q = (145, c.mv q) ∧ getK n c.L = some q ∧ namT ar en = true) := hid ⟨by rw [hf]; exact if_pos hl, hg, hn⟩
        clear h hx hK hg hn hky hl hf
        go_enter Tryz.func28, Tryz.ntmps28
        go_wp2_with fail
        refine HE.mono ?_
        rintro e w1 ⟨rfl, hk1⟩
        have HK1 : Hid (Same w w1) := hk1
        clear hk1 HE
        go_wp2_with fail
        go_ret
        exact stg_at HR.out.2.1 HR.out.2.2 HR.out.1 (by rw [Tc.set_self]; exact HT.out.1.still HT.out.2 (HK1.out.alloc _))
      · have b1 : (d.size : Int) ≤ 8192 := by omega
        have HR : Hid (f q = (0, stM (c.mv q) ⟨ky.1, ky.2, true, d, hd⟩) ∧ namT ar en = true) := hid ⟨by rw [hf, hky]; exact if_neg hl, hn⟩
        have HG : Hid (getK n c.L = some q) := hg
        have HST : Hid (∀ w', Same w w' → w'.cell? ⟨q, 2, none⟩ = some (.pointer (some ⟨c.st q, 0, none⟩))) := hid (fun w' hk => ((h.same hk).tb _ (getK_mem hg)).cell 2)
        obtain ⟨st, hst⟩ : ∃ x, x = c.st q := ⟨_, rfl⟩
        have HSE : Hid (st = c.st q) := hst
        rw [← hst] at HST
        clear h hx hK hg hn hky hl hst hf
        go_enter Tryz.func28, Tryz.ntmps28
        go_wp2_with fail
        refine HE.mono ?_
        rintro e w1 ⟨rfl, hk1⟩
        obtain ⟨wB, hwB⟩ : ∃ W, W = w1.alloc (.cells #[.string ky.1.tn, .string ky.1.ar, .string ky.2.s] 63) := ⟨_, rfl⟩
        obtain ⟨xb, hxb⟩ : ∃ y, y = w1.heap.size := ⟨_, rfl⟩
        have hkB : Same w wB := by rw [hwB]; exact hk1.alloc _
        have hbB : Blk wB xb #[.string ky.1.tn, .string ky.1.ar, .string ky.2.s] 63 := by rw [hwB, hxb]; exact Blk.new w1 _ _
        have HKB : Hid (Same w wB) := hkB
        have HPU : Hid (∀ w', Same wB w' → Calls Tryz.prog 71 #[.pointer (some ⟨st, 0, none⟩), .agg #[.string ky.1.tn, .string ky.1.ar, .string ky.2.s], .string d] w' fun e w2 => e = .returned (.tuple #[]) ∧ (w2.cell? ⟨q, 2, none⟩ = some (.pointer (some ⟨st, 0, none⟩)) ∧ w2.cell? ⟨xb, 0, none⟩ = some (.string ky.1.tn) ∧ w2.cell? ⟨xb, 1, none⟩ = some (.string ky.1.ar) ∧ w2.cell? ⟨xb, 2, none⟩ = some (.string ky.2.s)) ∧ TgA K N w p M bg τ (c.set q (stM (c.mv q) ⟨ky.1, ky.2, true, d, hd⟩)) w2) := hid (fun w' hk => by
          have hT := HT.out.1.same (hkB.trans hk)
          have hv := hT.ts _ (getK_mem HG.out)
          rw [HSE.out]
          refine (xvput hv ky d hd HT.out.2).mono (fun e w2 h9 => ?_)
          obtain ⟨h1, h2, h3⟩ := h9
          have h8 := hT.setMv HG.out h2 h3 (Nat.le_succ _) HT.out.2
          have hnq := vxOff hv (hT.tb _ (getK_mem HG.out)) (by decide)
          have hbx := (hbB.kept hk (fun f => f)).kept h3 (vxOff hv (hbB.kept hk (fun f => f)) (by decide))
          refine ⟨h1, ⟨?_, hbx.cell 0, hbx.cell 1, hbx.cell 2⟩, h8.1, Kept.trans (hkB.trans hk) h8.2 (fun _ _ f => f.elim) (fun _ _ e => e)⟩
          have h7 := HST.out w' (hkB.trans hk)
          rw [HSE.out] at h7
          exact h3.cell h7 hnq)
        have q2 := HST.out wB hkB
        have c0 := hbB.cell 0
        have c1 := hbB.cell 1
        have c2 := hbB.cell 2
        simp only [List.getElem?_toArray, List.getElem?_cons_zero, List.getElem?_cons_succ] at c0 c1 c2
        have HKK : Hid (Same wB wB) := hid (Kept.refl _ _)
        clear hk1 HE hkB hbB
        go_upto_region 6 with fail
        rw [← hwB, ← hxb]
        clear hwB hxb
        go_region_held3 (fun w' => w'.cell? ⟨q, 2, none⟩ = some (.pointer (some ⟨st, 0, none⟩)) ∧ w'.cell? ⟨xb, 0, none⟩ = some (.string ky.1.tn) ∧ w'.cell? ⟨xb, 1, none⟩ = some (.string ky.1.ar) ∧ w'.cell? ⟨xb, 2, none⟩ = some (.string ky.2.s))
          (first
            | exact hcl
            | go_keep)
          (first
            | (go_at_call 71; refine (HPU.out _ (by first | exact HKK.out | exact HKK.out.drew)).mono ?_; rintro e wk ⟨rfl, hcl, hT9⟩; have HT9 := hid hT9; clear hT9))
        go_wp2_with fail
        go_ret
        exact stg_at HG.out HR.out.2 HR.out.1 HT9.out

end

end Go.Proofs.YtapcjmnibkoegaaGreatDoor

/-
  Layer 14: Read, of a manager.
-/
namespace Go.Proofs.YtapcjmnibkoegaaGreatDoor
open Go.RowKit Go.Maps Go.Sort Go.Shelf

def seeD (mv : Mv) (M : Mst) (k : Ke) : ByteArray := match mv.st k with | some r => r.data | none => (newV (M.V k.1 k.2) (max (mv.t + 1) M.floor)).data
def seeT (mv : Mv) (M : Mst) (k : Ke) : Bool := match mv.st k with | some r => r.there | none => (newV (M.V k.1 k.2) (max (mv.t + 1) M.floor)).there
theorem seeA_is (mv : Mv) (M : Mst) (k : Ke) : seeA mv M k = .tuple #[.string (seeD mv M k), .bool (seeT mv M k)] := by
  unfold seeA seeD seeT
  cases mv.st k <;> rfl
theorem notM_st (mv : Mv) (k k' : Ke) : (notM mv k).st k' = mv.st k' ∧ (notM mv k).t = mv.t := by
  unfold notM
  split
  · exact ⟨rfl, rfl⟩
  · exact ⟨rfl, rfl⟩
theorem see_not (mv : Mv) (M : Mst) (k k' : Ke) : seeD (notM mv k) M k' = seeD mv M k' ∧ seeT (notM mv k) M k' = seeT mv M k' := by
  unfold seeD seeT
  rw [(notM_st mv k k').1, (notM_st mv k k').2]
  exact ⟨rfl, rfl⟩

/-- What a call tells that sees an entry. -/
def SeeR (c : Tc) (n : Nb) (ar en : Nm) (z : Int → Value) (f : Nat → Value × Mv) (v : Value) (c' : Tc) : Prop :=
  match getK n c.L with
  | none => v = z 140 ∧ c' = c
  | some q => if namT ar en = true then v = (f q).1 ∧ c' = c.set q (f q).2 else v = z 143 ∧ c' = c

def SeeG (K N : Nat) (w : World) (p : Nat) (M : Mst) (bg : Int) (τ : Nat → Nat) (c : Tc) (n : Nb) (ar en : Nm) (z : Int → Value) (f : Nat → Value × Mv) (e : Ending) (w' : World) : Prop := ∃ v c', e = .returned v ∧ SeeR c n ar en z f v c' ∧ TgA K N w p M bg τ c' w'

section
variable {K N : Nat} {w : World} {p : Nat} {M : Mst} {bg : Int} {c : Tc} {τ : Nat → Nat}

theorem see_none {n : Nb} {ar en : Nm} {z : Int → Value} {f : Nat → Value × Mv} {w' : World} {v : Value} (hv : v = z 140) (hg : getK n c.L = none) (hT : TgA K N w p M bg τ c w') : SeeG K N w p M bg τ c n ar en z f (.returned v) w' := ⟨v, c, rfl, by unfold SeeR; rw [hg]; exact ⟨hv, rfl⟩, hT⟩
theorem see_bad {n : Nb} {q : Nat} {ar en : Nm} {z : Int → Value} {f : Nat → Value × Mv} {w' : World} {v : Value} (hv : v = z 143) (hg : getK n c.L = some q) (hn : namT ar en = false) (hT : TgA K N w p M bg τ c w') : SeeG K N w p M bg τ c n ar en z f (.returned v) w' := ⟨v, c, rfl, by unfold SeeR; rw [hg]; show (if namT ar en = true then _ else _); rw [if_neg (by rw [hn]; decide)]; exact ⟨hv, rfl⟩, hT⟩
theorem see_at {n : Nb} {q : Nat} {ar en : Nm} {z : Int → Value} {f : Nat → Value × Mv} {w' : World} (hg : getK n c.L = some q) (hn : namT ar en = true) {v : Value} {mv : Mv} (hf : f q = (v, mv)) (hT : TgA K N w p M bg τ (c.set q mv) w') : SeeG K N w p M bg τ c n ar en z f (.returned v) w' := ⟨v, c.set q mv, rfl, by unfold SeeR; rw [hg]; show (if namT ar en = true then _ else _); rw [if_pos hn, hf]; exact ⟨rfl, rfl⟩, hT⟩

theorem Tk.tt (h : Tk K N w p M bg c τ) {n : Nb} {q : Nat} (hg : getK n c.L = some q) : Tt K N w q c.ps (c.ow q) (c.st q) (c.J q) (c.mv q) M c.ρ := ⟨h.tb _ (getK_mem hg), h.ts _ (getK_mem hg), h.sto⟩

/-- A transaction notes an entry, and then sees it. -/
theorem tnotes (h : Tk K N w p M bg c τ) {n : Nb} {q : Nat} (hg : getK n c.L = some q) (k : Ke) (ht : 0 ≤ (c.mv q).t ∧ (c.mv q).t ≤ 9223372036854775806) (hK : K + 1 ≤ 100000) : Calls Tryz.prog 67 #[.pointer (some ⟨q, 0, none⟩), .agg #[.string k.1.tn, .string k.1.ar, .string k.2.s]] w fun e w2 => e = .returned (.tuple #[]) ∧ Kept (c.J q) w w2 ∧ TgA K N w p M bg τ (c.set q (notM (c.mv q) k)) w2 ∧ ∀ w3, Same w2 w3 → Calls Tryz.prog 68 #[.pointer (some ⟨q, 0, none⟩), .agg #[.string k.1.tn, .string k.1.ar, .string k.2.s]] w3 fun e w4 => e = .returned (.tuple #[.string (seeD (c.mv q) M k), .bool (seeT (c.mv q) M k)]) ∧ Same w3 w4 := by
  refine (tnote_any (h.tt hg) k hK).mono ?_
  rintro e w2 ⟨rfl, h2, h3⟩
  have h8 := h.setMv hg h2 h3 (Nat.le_succ _) hK
  refine ⟨rfl, h3, h8, fun w3 hk3 => ?_⟩
  have h9 := (h8.1.same hk3).tt (n := n) (q := q) hg
  have e1 : (c.set q (notM (c.mv q) k)).mv q = notM (c.mv q) k := if_pos rfl
  rw [e1] at h9
  have h7 := tsees_any h9 k (by rw [(notM_st (c.mv q) k k).2]; exact ht)
  rw [seeA_is, (see_not (c.mv q) M k k).1, (see_not (c.mv q) M k k).2] at h7
  exact h7

set_option maxRecDepth 100000 in
set_option maxHeartbeats 2000000 in
theorem tread_any (h : Tk K N w p M bg c τ) (n : Nb) (ar en : Nm) (hx : Mxl w) (hs : ∀ x ∈ c.L, 0 ≤ (c.mv x.2).t ∧ (c.mv x.2).t ≤ 9223372036854775806) (hK : K + 1 ≤ 100000) : Calls Tryz.prog 24 #[.pointer (some ⟨p, 0, none⟩), .int .i64 n.v, .string ar.s, .string en.s] w fun e w' => SeeG K N w p M bg τ c n ar en (fun m => .tuple #[.string ⟨#[]⟩, .int .i64 m]) (fun q => (if seeT (c.mv q) M (keT c q ar en) = true then .tuple #[.string (seeD (c.mv q) M (keT c q ar en)), .int .i64 0] else .tuple #[.string ⟨#[]⟩, .int .i64 144], notM (c.mv q) (keT c q ar en))) e w' := by
  have HE := tentry_any h n ar.s en.s hx
  have HT : Hid (Tk K N w p M bg c τ ∧ K + 1 ≤ 100000) := hid ⟨h, hK⟩
  obtain ⟨f, hf⟩ : ∃ f : Nat → Value × Mv, f = fun q => (if seeT (c.mv q) M (keT c q ar en) = true then .tuple #[.string (seeD (c.mv q) M (keT c q ar en)), .int .i64 0] else .tuple #[.string ⟨#[]⟩, .int .i64 144], notM (c.mv q) (keT c q ar en)) := ⟨_, rfl⟩
  rw [← hf]
  obtain ⟨z, hz⟩ : ∃ z : Int → Value, z = fun m => .tuple #[.string ⟨#[]⟩, .int .i64 m] := ⟨_, rfl⟩
  rw [← hz]
  have HZ : Hid (z = fun m => .tuple #[.string ⟨#[]⟩, .int .i64 m]) := hz
  clear hz
  cases hg : getK n c.L with
  | none =>
    rw [entA_none hg] at HE
    have HG : Hid (getK n c.L = none) := hg
    clear h hx hK hg hf hs
    go_enter Tryz.func24, Tryz.ntmps24
    go_wp2_with fail
    refine HE.mono ?_
    rintro e w1 ⟨rfl, hk1⟩
    have HK1 : Hid (Same w w1) := hk1
    clear hk1 HE
    go_wp2_with fail
    go_ret2
    exact see_none (by rw [HZ.out]; rfl) HG.out (HT.out.1.still HT.out.2 (HK1.out.alloc _))
  | some q =>
    cases hn : namT ar en with
    | false =>
      rw [entA_bad hg hn] at HE
      have HG : Hid (getK n c.L = some q ∧ namT ar en = false) := hid ⟨hg, hn⟩
      clear h hx hK hg hn hf hs
      go_enter Tryz.func24, Tryz.ntmps24
      go_wp2_with fail
      refine HE.mono ?_
      rintro e w1 ⟨rfl, hk1⟩
      have HK1 : Hid (Same w w1) := hk1
      clear hk1 HE
      go_wp2_with fail
      go_ret2
      exact see_bad (by rw [HZ.out]; rfl) HG.out.1 HG.out.2 (HT.out.1.still HT.out.2 (HK1.out.alloc _))
    | true =>
      rw [entA_good hg hn] at HE
      obtain ⟨ky, hky⟩ : ∃ k, k = keT c q ar en := ⟨_, rfl⟩
      rw [← hky] at HE
      have hts := hs _ (getK_mem hg)
      obtain ⟨sd, hsd⟩ : ∃ x, x = seeD (c.mv q) M ky := ⟨_, rfl⟩
      obtain ⟨st', hst'⟩ : ∃ x, x = seeT (c.mv q) M ky := ⟨_, rfl⟩
      have HR : Hid (f q = (if st' = true then .tuple #[.string sd, .int .i64 0] else .tuple #[.string ⟨#[]⟩, .int .i64 144], notM (c.mv q) ky) ∧ getK n c.L = some q ∧ namT ar en = true) := hid ⟨by rw [hf, hst', hsd, hky], hg, hn⟩
      have HNT : Hid (∀ w', Same w w' → Calls Tryz.prog 67 #[.pointer (some ⟨q, 0, none⟩), .agg #[.string ky.1.tn, .string ky.1.ar, .string ky.2.s]] w' fun e w2 => e = .returned (.tuple #[]) ∧ Kept (c.J q) w' w2 ∧ TgA K N w' p M bg τ (c.set q (notM (c.mv q) ky)) w2 ∧ ∀ w3, Same w2 w3 → Calls Tryz.prog 68 #[.pointer (some ⟨q, 0, none⟩), .agg #[.string ky.1.tn, .string ky.1.ar, .string ky.2.s]] w3 fun e w4 => e = .returned (.tuple #[.string sd, .bool st']) ∧ Same w3 w4) := hid (fun w' hk => by
        rw [hsd, hst']
        exact tnotes (HT.out.1.same hk) hg ky hts HT.out.2)
      have HVX : Hid (∀ w', Same w w' → Vx K w' (c.st q) (c.J q) (c.mv q)) := hid (fun w' hk => (h.same hk).ts _ (getK_mem hg))
      clear h hx hK hg hn hky hf hs hts hsd hst'
      go_enter Tryz.func24, Tryz.ntmps24
      go_wp2_with fail
      refine HE.mono ?_
      rintro e w1 ⟨rfl, hk1⟩
      obtain ⟨wB, hwB⟩ : ∃ W, W = w1.alloc (.cells #[.string ky.1.tn, .string ky.1.ar, .string ky.2.s] 63) := ⟨_, rfl⟩
      obtain ⟨xb, hxb⟩ : ∃ y, y = w1.heap.size := ⟨_, rfl⟩
      have hkB : Same w wB := by rw [hwB]; exact hk1.alloc _
      have hbB : Blk wB xb #[.string ky.1.tn, .string ky.1.ar, .string ky.2.s] 63 := by rw [hwB, hxb]; exact Blk.new w1 _ _
      have HB : Hid (Same w wB ∧ Blk wB xb #[.string ky.1.tn, .string ky.1.ar, .string ky.2.s] 63) := hid ⟨hkB, hbB⟩
      have c0 := hbB.cell 0
      have c1 := hbB.cell 1
      have c2 := hbB.cell 2
      simp only [List.getElem?_toArray, List.getElem?_cons_zero, List.getElem?_cons_succ] at c0 c1 c2
      clear hk1 HE hkB hbB
      go_upto_region 4 with fail
      rw [← hwB, ← hxb]
      clear hwB hxb
      go_wp2_with fail
      refine (HNT.out wB HB.out.1).mono ?_
      rintro e w2 ⟨rfl, hj2, hT2, hcon⟩
      have H2 : Hid (TgA K N w p M bg τ (c.set q (notM (c.mv q) ky)) w2) := hid ⟨hT2.1, Kept.trans HB.out.1 hT2.2 (fun _ _ f => f.elim) (fun _ _ e => e)⟩
      have HCN := hid hcon
      have hb2 := HB.out.2.kept hj2 (vxOff (HVX.out wB HB.out.1) HB.out.2 (by decide))
      clear c0 c1 c2
      have c0 := hb2.cell 0
      have c1 := hb2.cell 1
      have c2 := hb2.cell 2
      simp only [List.getElem?_toArray, List.getElem?_cons_zero, List.getElem?_cons_succ] at c0 c1 c2
      clear hj2 hT2 hcon hb2
      go_wp2_with fail
      refine (HCN.out w2 (Kept.refl _ _)).mono ?_
      rintro e w3 ⟨rfl, hk3⟩
      have H3 : Hid (TgA K N w p M bg τ (c.set q (notM (c.mv q) ky)) w3) := hid ⟨H2.out.1.same hk3, Kept.trans H2.out.2 hk3 (fun _ _ e => e) (fun _ _ f => f.elim)⟩
      clear hk3 c0 c1 c2
      cases st' with
      | true =>
        go_wp2_with fail
        go_ret2
        exact see_at HR.out.2.1 HR.out.2.2 (by rw [HR.out.1]; rfl) H3.out
      | false =>
        go_wp2_with fail
        go_ret2
        exact see_at HR.out.2.1 HR.out.2.2 (by rw [HR.out.1]; rfl) H3.out

end

end Go.Proofs.YtapcjmnibkoegaaGreatDoor

/-
  Layer 14: Add, of a manager.
-/
namespace Go.Proofs.YtapcjmnibkoegaaGreatDoor
open Go.RowKit Go.Maps Go.Sort Go.Shelf
/-- What Add stages. -/
def addF (mv : Mv) (M : Mst) (k : Ke) (d : ByteArray) : Int × Mv :=
  if h : (seeD mv M k).size + d.size ≤ 8192 then (0, stM (notM mv k) ⟨k.1, k.2, true, seeD mv M k ++ d, by rw [ByteArray.size_append]; unfold maxLen; omega⟩) else (145, notM mv k)

section
variable {K N : Nat} {w : World} {p : Nat} {M : Mst} {bg : Int} {c : Tc} {τ : Nat → Nat}

theorem Tc.set_set {q : Nat} {a b : Mv} : (c.set q a).set q b = c.set q b := by
  unfold Tc.set
  have : (fun x => if x = q then b else if x = q then a else c.mv x) = fun x => if x = q then b else c.mv x := funext fun x => by
    by_cases e : x = q
    · rw [if_pos e, if_pos e]
    · rw [if_neg e, if_neg e, if_neg e]
  simp only [this]

set_option maxRecDepth 100000 in
set_option maxHeartbeats 2000000 in
theorem tadd_any (h : Tk K N w p M bg c τ) (n : Nb) (ar en : Nm) (d : ByteArray) (hbig : ∀ q, getK n c.L = some q → (seeD (c.mv q) M (keT c q ar en)).size + d.size ≤ 4611686018427387904) (hx : Mxl w) (hs : ∀ x ∈ c.L, 0 ≤ (c.mv x.2).t ∧ (c.mv x.2).t ≤ 9223372036854775806) (hK : K + 1 + 1 ≤ 100000) : Calls Tryz.prog 29 #[.pointer (some ⟨p, 0, none⟩), .int .i64 n.v, .string ar.s, .string en.s, .string d] w fun e w' => StgA (K + 1) N w p M bg τ c n ar en (fun q => addF (c.mv q) M (keT c q ar en) d) e w' := by
  have HE := tentry_any h n ar.s en.s hx
  have HT : Hid (Tk K N w p M bg c τ ∧ K + 1 ≤ 100000) := hid ⟨h, by omega⟩
  have HK2 : Hid (K + 1 + 1 ≤ 100000) := hK
  obtain ⟨f, hf⟩ : ∃ f : Nat → Int × Mv, f = fun q => addF (c.mv q) M (keT c q ar en) d := ⟨_, rfl⟩
  rw [← hf]
  cases hg : getK n c.L with
  | none =>
    rw [entA_none hg] at HE
    have HG : Hid (getK n c.L = none) := hg
    clear h hx hK hg hf hs hbig
    go_enter Tryz.func29, Tryz.ntmps29
    go_wp2_with fail
    refine HE.mono ?_
    rintro e w1 ⟨rfl, hk1⟩
    have HK1 : Hid (Same w w1) := hk1
    clear hk1 HE
    go_wp2_with fail
    go_ret
    exact stg_none HG.out ((HT.out.1.more (Nat.le_succ _) HT.out.2).still HK2.out (HK1.out.alloc _))
  | some q =>
    cases hn : namT ar en with
    | false =>
      rw [entA_bad hg hn] at HE
      have HG : Hid (getK n c.L = some q ∧ namT ar en = false) := hid ⟨hg, hn⟩
      clear h hx hK hg hn hf hs hbig
      go_enter Tryz.func29, Tryz.ntmps29
      go_wp2_with fail
      refine HE.mono ?_
      rintro e w1 ⟨rfl, hk1⟩
      have HK1 : Hid (Same w w1) := hk1
      clear hk1 HE
      go_wp2_with fail
      go_ret
      exact stg_bad HG.out.1 HG.out.2 ((HT.out.1.more (Nat.le_succ _) HT.out.2).still HK2.out (HK1.out.alloc _))
    | true =>
      rw [entA_good hg hn] at HE
      obtain ⟨ky, hky⟩ : ∃ k, k = keT c q ar en := ⟨_, rfl⟩
      rw [← hky] at HE
      have hts := hs _ (getK_mem hg)
      obtain ⟨sd, hsd⟩ : ∃ x, x = seeD (c.mv q) M ky := ⟨_, rfl⟩
      obtain ⟨st', hst'⟩ : ∃ x, x = seeT (c.mv q) M ky := ⟨_, rfl⟩
      have hsz : sd.size + d.size ≤ 4611686018427387904 := by have h9 := hbig q hg; rw [← hky, ← hsd] at h9; exact h9
      have HR : Hid ((8192 < sd.size + d.size → f q = (145, notM (c.mv q) ky)) ∧ (∀ hz : (sd ++ d).size ≤ maxLen, ¬ 8192 < sd.size + d.size → f q = (0, stM (notM (c.mv q) ky) ⟨ky.1, ky.2, true, sd ++ d, hz⟩)) ∧ getK n c.L = some q ∧ namT ar en = true) := hid ⟨fun e => by subst hsd; rw [hf]; show addF (c.mv q) M (keT c q ar en) d = _; rw [← hky]; unfold addF; rw [dif_neg (by omega)], fun hz e => by subst hsd; rw [hf]; show addF (c.mv q) M (keT c q ar en) d = _; rw [← hky]; unfold addF; rw [dif_pos (by omega)], hg, hn⟩
      have HNT : Hid (∀ w', Same w w' → Calls Tryz.prog 67 #[.pointer (some ⟨q, 0, none⟩), .agg #[.string ky.1.tn, .string ky.1.ar, .string ky.2.s]] w' fun e w2 => e = .returned (.tuple #[]) ∧ Kept (c.J q) w' w2 ∧ TgA K N w' p M bg τ (c.set q (notM (c.mv q) ky)) w2 ∧ ∀ w3, Same w2 w3 → Calls Tryz.prog 68 #[.pointer (some ⟨q, 0, none⟩), .agg #[.string ky.1.tn, .string ky.1.ar, .string ky.2.s]] w3 fun e w4 => e = .returned (.tuple #[.string sd, .bool st']) ∧ Same w3 w4) := hid (fun w' hk => by
        rw [hsd, hst']
        exact tnotes (HT.out.1.same hk) hg ky hts HT.out.2)
      have HVX : Hid (∀ w', Same w w' → Vx K w' (c.st q) (c.J q) (c.mv q)) := hid (fun w' hk => (h.same hk).ts _ (getK_mem hg))
      have HST : Hid (∀ w', Tk (K + 1) N w' p M bg (c.set q (notM (c.mv q) ky)) τ → w'.cell? ⟨q, 2, none⟩ = some (.pointer (some ⟨c.st q, 0, none⟩)) ∧ Vx (K + 1) w' (c.st q) (c.J q) (notM (c.mv q) ky)) := hid (fun w' hT => by
        have h9 := hT.tt (n := n) (q := q) hg
        have e1 : (c.set q (notM (c.mv q) ky)).mv q = notM (c.mv q) ky := if_pos rfl
        rw [e1] at h9
        exact ⟨h9.blk.cell 2, h9.set⟩)
      have HSZ : Hid (sd.size + d.size ≤ 4611686018427387904) := hsz
      clear h hx hK hg hn hky hf hs hts hsd hst' hsz hbig
      go_enter Tryz.func29, Tryz.ntmps29
      go_wp2_with fail
      refine HE.mono ?_
      rintro e w1 ⟨rfl, hk1⟩
      obtain ⟨wB, hwB⟩ : ∃ W, W = w1.alloc (.cells #[.string ky.1.tn, .string ky.1.ar, .string ky.2.s] 63) := ⟨_, rfl⟩
      obtain ⟨xb, hxb⟩ : ∃ y, y = w1.heap.size := ⟨_, rfl⟩
      have hkB : Same w wB := by rw [hwB]; exact hk1.alloc _
      have hbB : Blk wB xb #[.string ky.1.tn, .string ky.1.ar, .string ky.2.s] 63 := by rw [hwB, hxb]; exact Blk.new w1 _ _
      have HB : Hid (Same w wB ∧ Blk wB xb #[.string ky.1.tn, .string ky.1.ar, .string ky.2.s] 63) := hid ⟨hkB, hbB⟩
      have c0 := hbB.cell 0
      have c1 := hbB.cell 1
      have c2 := hbB.cell 2
      simp only [List.getElem?_toArray, List.getElem?_cons_zero, List.getElem?_cons_succ] at c0 c1 c2
      clear hk1 HE hkB hbB
      go_upto_region 4 with fail
      rw [← hwB, ← hxb]
      clear hwB hxb
      go_wp2_with fail
      refine (HNT.out wB HB.out.1).mono ?_
      rintro e w2 ⟨rfl, hj2, hT2, hcon⟩
      have H2 : Hid (TgA K N w p M bg τ (c.set q (notM (c.mv q) ky)) w2) := hid ⟨hT2.1, Kept.trans HB.out.1 hT2.2 (fun _ _ f => f.elim) (fun _ _ e => e)⟩
      have HCN := hid hcon
      have hb2 := HB.out.2.kept hj2 (vxOff (HVX.out wB HB.out.1) HB.out.2 (by decide))
      have HBX : Hid (Blk w2 xb #[.string ky.1.tn, .string ky.1.ar, .string ky.2.s] 63) := hb2
      clear c0 c1 c2
      have c0 := hb2.cell 0
      have c1 := hb2.cell 1
      have c2 := hb2.cell 2
      simp only [List.getElem?_toArray, List.getElem?_cons_zero, List.getElem?_cons_succ] at c0 c1 c2
      clear hj2 hT2 hcon hb2
      go_wp2_with fail
      refine (HCN.out w2 (Kept.refl _ _)).mono ?_
      rintro e w3 ⟨rfl, hk3⟩
      have H3 : Hid (TgA K N w p M bg τ (c.set q (notM (c.mv q) ky)) w3) := hid ⟨H2.out.1.same hk3, Kept.trans H2.out.2 hk3 (fun _ _ e => e) (fun _ _ f => f.elim)⟩
      have hb3 := HBX.out.kept hk3 (fun f => f)
      clear c0 c1 c2
      have hlw : IntKind.i64.wrap ((sd.size : Int) + (d.size : Int)) = (sd.size : Int) + (d.size : Int) := by have := HSZ.out; rw [IntKind.wrap_i64]; omega
      by_cases hl : 8192 < sd.size + d.size
      · have b1 : (8192 : Int) < (sd.size : Int) + (d.size : Int) := by omega
        have HF := hid (HR.out.1 hl)
        clear hl hk3 hb3
        go_wp2_with fail
        go_ret
        exact stg_at HR.out.2.2.1 HR.out.2.2.2 HF.out ⟨H3.out.1.more (Nat.le_succ _) HK2.out, H3.out.2⟩
      · have b1 : (sd.size : Int) + (d.size : Int) ≤ 8192 := by omega
        have hz : (sd ++ d).size ≤ maxLen := by rw [ByteArray.size_append]; unfold maxLen; omega
        have hz2 : sd.size + d.size ≤ maxLen := by unfold maxLen; omega
        have hz3 : ¬ maxLen < sd.size + d.size := by omega
        have HF := hid (HR.out.2.1 hz hl)
        obtain ⟨q2, hvx⟩ := HST.out w3 H3.out.1
        have HPU : Hid (∀ w', Same w3 w' → Calls Tryz.prog 71 #[.pointer (some ⟨c.st q, 0, none⟩), .agg #[.string ky.1.tn, .string ky.1.ar, .string ky.2.s], .string (sd ++ d)] w' fun e w2 => e = .returned (.tuple #[]) ∧ (w2.cell? ⟨q, 2, none⟩ = some (.pointer (some ⟨c.st q, 0, none⟩)) ∧ w2.cell? ⟨xb, 0, none⟩ = some (.string ky.1.tn) ∧ w2.cell? ⟨xb, 1, none⟩ = some (.string ky.1.ar) ∧ w2.cell? ⟨xb, 2, none⟩ = some (.string ky.2.s)) ∧ TgA (K + 1) N w p M bg τ (c.set q (stM (notM (c.mv q) ky) ⟨ky.1, ky.2, true, sd ++ d, hz⟩)) w2) := hid (fun w' hk => by
          refine (xvput (hvx.same hk) ky (sd ++ d) hz HK2.out).mono (fun e w2 h9 => ?_)
          obtain ⟨h1, h2, h3⟩ := h9
          have hT := H3.out.1.same hk
          have h8 := hT.setMv (n := n) (q := q) HR.out.2.2.1 h2 h3 (Nat.le_succ _) HK2.out
          have hbw := hb3.kept hk (fun f => f)
          have hbx := hbw.kept h3 (vxOff (hvx.same hk) hbw (by decide))
          have hnq := vxOff (hvx.same hk) (hT.tb _ (getK_mem HR.out.2.2.1)) (by decide)
          refine ⟨h1, ⟨h3.cell ((HST.out w' hT).1) hnq, hbx.cell 0, hbx.cell 1, hbx.cell 2⟩, ?_⟩
          have h7 := h8.1
          rw [Tc.set_set] at h7
          exact ⟨h7, Kept.trans (Kept.trans H3.out.2 hk (fun _ _ e => e) (fun _ _ f => f.elim)) h8.2 (fun _ _ e => e) (fun _ _ e => e)⟩)
        have c0 := hb3.cell 0
        have c1 := hb3.cell 1
        have c2 := hb3.cell 2
        simp only [List.getElem?_toArray, List.getElem?_cons_zero, List.getElem?_cons_succ] at c0 c1 c2
        obtain ⟨st, hst⟩ : ∃ x, x = c.st q := ⟨_, rfl⟩
        rw [← hst] at HPU q2
        have HKK : Hid (Same w3 w3) := hid (Kept.refl _ _)
        clear hl hk3 hb3 hvx hst
        go_upto_region 8 with fail
        go_region_with (go_at_call 71; refine (HPU.out _ (show Same w3 _ by first | exact HKK.out | exact HKK.out.drew)).mono ?_; rintro e wk ⟨rfl, hcl, hT9⟩; have HT9 := hid hT9; clear hT9)
        all_goals go_wp2_with fail
        all_goals go_ret
        all_goals exact stg_at HR.out.2.2.1 HR.out.2.2.2 HF.out HT9.out

end

end Go.Proofs.YtapcjmnibkoegaaGreatDoor
