/-
  The program's Write.
-/
import Derived.Test.YtfhfnkhiomahfaaGreatDoorHmF
namespace Go.Proofs.YtfhfnkhiomahfaaGreatDoor
open Go.RowKit

theorem HB.raw {w : World} {p : Nat} {ws bs : List Nat} {n : Nat} (h : HB w p ws bs n) : Raw w p 128 (hCells ws bs n) := h.blk

/-- Bytes laid into the block. -/
theorem splice_h (ws bs cs : List Nat) (n r : Nat) (hw : ws.length = 8) (hb : bs.length = 64) (hr : r + cs.length ≤ 64) :
    splice (hCells ws bs n) (8 + r) (cs.map byteV) = hCells ws (bs.take r ++ cs ++ bs.drop (r + cs.length)) n := by
  unfold splice hCells
  rw [List.take_append, List.drop_append]
  simp only [List.length_map, hw, List.map_append, List.map_take, List.map_drop]
  rw [List.take_of_length_le (by simp; omega), show 8 + r - 8 = r by omega, List.take_append_of_le_length (by simp; omega), List.drop_of_length_le (by simp; omega), List.nil_append, show 8 + r + cs.length - 8 = r + cs.length by omega, List.drop_append_of_le_length (by simp; omega)]
  simp only [List.append_assoc]

theorem Src.cells {w : World} {I : Nat → Prop} {b o c n : Nat} {cs : List Nat} (h : Src w I (.slice (some ⟨b, o, none⟩) n c) cs) (m : Nat) : CellsAt w ⟨b, o, none⟩ ((cs.take m).map byteV) := by
  intro j u hu
  obtain ⟨ao, cap, e, hc⟩ := h
  injection e with e1 e2 e3
  have hj : j < ((cs.take m).map byteV).length := (List.getElem?_eq_some_iff.1 hu).1
  rw [List.length_map, List.length_take] at hj
  obtain ⟨b', o', e4, _, hcell⟩ := hc (by intro q; rw [q] at hj; simp at hj)
  subst e1
  injection e4 with e5
  injection e5 with e6 e7 _
  subst e6 e7
  have e8 : (⟨b, o, none⟩ : Addr).add j = ⟨b, o + j, none⟩ := by unfold Addr.add; split <;> simp_all
  rw [e8, hcell j (by omega)]
  rw [List.getElem?_map, List.getElem?_take_of_lt (by omega), List.getElem?_eq_getElem (by omega)] at hu
  simpa [byteV] using hu

/-- The rest of what is to be written. -/
theorem Src.rest {w : World} {I : Nat → Prop} {b o c : Nat} {cs : List Nat} (h : Src w I (.slice (some ⟨b, o, none⟩) cs.length c) cs) (n : Nat) (a' : Option Addr) (ha : (if c = n then (some ⟨b, o, none⟩ : Option Addr) else some ⟨b, o + n, none⟩) = a') (hc : cs.length ≤ c) :
    Src w I (.slice a' (cs.length - n) (c - n)) (cs.drop n) := by
  obtain ⟨ao, cap, e, hcc⟩ := h
  injection e with e1 e2 e3
  subst e1 e3
  refine ⟨a', c - n, by rw [List.length_drop], fun hne => ?_⟩
  have hlt : n < cs.length := by
    rcases Nat.lt_or_ge n cs.length with q | q
    · exact q
    · exact absurd (List.drop_of_length_le q) hne
  obtain ⟨b', o', e4, hI, hcell⟩ := hcc (by intro q; rw [q] at hlt; simp at hlt)
  injection e4 with e5
  injection e5 with e6 e7 _
  subst e6 e7
  rw [if_neg (by omega)] at ha
  refine ⟨b, o + n, ha.symm, hI, fun j hj => ?_⟩
  rw [List.length_drop] at hj
  have := hcell (n + j) (by omega)
  rw [Nat.add_assoc, this]
  simp

/-- What a part that is laid makes of a hash's block. -/
theorem hs_part (all cs blk : List Nat) (r : Nat) (hr : r = all.length % 64) (hn : r + cs.length ≤ 64) (hb : blk.length = 64) (ht : blk.take (all.length % 64) = all.drop (64 * (all.length / 64))) :
    (blk.take r ++ cs ++ blk.drop (r + cs.length)).length = 64 ∧ (blk.take r ++ cs ++ blk.drop (r + cs.length)).take (r + cs.length) = (all ++ cs).drop (64 * (all.length / 64)) := by
  have h1 : (blk.take r).length = r := by rw [List.length_take]; omega
  refine ⟨by simp; omega, ?_⟩
  rw [List.take_append_of_le_length (by simp; omega), List.take_of_length_le (by simp; omega), List.drop_append_of_le_length (by omega), hr, ht]

theorem hs_short {w : World} {p : Nat} {al cs blk : List Nat} {r sz sz2 : Nat} (hsz : sz = al.length) (hr : r = al.length % 64) (h2 : sz2 = sz + cs.length) (hlt : r + cs.length < 64)
    (hB : HB w p (blkS al (sz / 64)) (blk.take r ++ cs ++ blk.drop (r + cs.length)) sz2) (hb : blk.length = 64) (ht : blk.take r = al.drop (64 * (sz / 64))) (ha : ∀ x ∈ al, x < 256) (hc : ∀ x ∈ cs, x < 256) : Hs w p (al ++ cs) := by
  have hl : (al ++ cs).length = sz2 := by rw [List.length_append]; omega
  have hq : sz2 / 64 = sz / 64 := by omega
  have hm : sz2 % 64 = r + cs.length := by omega
  have h9 := hs_part al cs blk r hr (by omega) hb (by rw [← hr, ← hsz]; exact ht)
  refine ⟨⟨blk.take r ++ cs ++ blk.drop (r + cs.length), ?_, ?_⟩, fun x hx => (List.mem_append.1 hx).elim (ha x) (hc x)⟩
  · rw [hl, hq, blkS_append _ _ _ (by omega)]
    exact hB
  · rw [hl, hq, hm, h9.2, ← hsz]

theorem hs_full {w : World} {p : Nat} {al cs blk : List Nat} {r sz sz2 : Nat} (hsz : sz = al.length) (hr : r = al.length % 64) (h2 : sz2 = sz + cs.length) (hlt : r + cs.length = 64)
    (hB : HB w p (mixF (blkS al (sz / 64)) (blk.take r ++ cs ++ blk.drop (r + cs.length))) (blk.take r ++ cs ++ blk.drop (r + cs.length)) sz2) (hb : blk.length = 64) (ht : blk.take r = al.drop (64 * (sz / 64))) (ha : ∀ x ∈ al, x < 256) (hc : ∀ x ∈ cs, x < 256) : Hs w p (al ++ cs) := by
  have hl : (al ++ cs).length = sz2 := by rw [List.length_append]; omega
  have hq : sz2 / 64 = sz / 64 + 1 := by omega
  have hm : sz2 % 64 = 0 := by omega
  have h9 := hs_part al cs blk r hr (by omega) hb (by rw [← hr, ← hsz]; exact ht)
  have h8 : blk.take r ++ cs ++ blk.drop (r + cs.length) = ((al ++ cs).drop (64 * (sz / 64))).take 64 := by
    generalize blk.take r ++ cs ++ blk.drop (r + cs.length) = X at h9 ⊢
    rw [hlt] at h9
    rw [hsz, ← h9.2, List.take_take, Nat.min_self, List.take_of_length_le (by omega)]
  refine ⟨⟨blk.take r ++ cs ++ blk.drop (r + cs.length), ?_, ?_⟩, fun x hx => (List.mem_append.1 hx).elim (ha x) (hc x)⟩
  · rw [hl, hq, blkS, blkS_append _ _ _ (by omega), ← h8]
    exact hB
  · rw [hl, hq, hm, List.take_zero]
    exact (List.drop_of_length_le (by omega)).symm

set_option maxRecDepth 100000 in
set_option maxHeartbeats 1000000 in
theorem hwrite_any (w : World) (p : Nat) (all : List Nat) (v : Value) (I : Nat → Prop) (bs : List Nat) (h : Hs w p all) (hsrc : Src w I v bs) (hI : ∀ k, I k → k ≠ p) (hcap : ∀ a n c, v = .slice a n c → n ≤ c) (hb : ∀ x ∈ bs, x < 256) (hT : Tab15 w) (hp : p ≠ 2) (hlen : all.length + bs.length ≤ 1000000000) :
    Calls Tryz.prog 61 #[.pointer (some ⟨p, 0, none⟩), v] w fun e w' => (∃ u, e = .returned u) ∧ Hs w' p (all ++ bs) ∧ Kept (· = p) w w' := by
  have H : Hid (Hs w p all) := h
  have HS : Hid (Src w I v bs) := hsrc
  have HI : Hid (∀ k, I k → k ≠ p) := hI
  have HBY : Hid (∀ x ∈ bs, x < 256) := hb
  have HT : Hid (Tab15 w) := hT
  have HP : Hid (p ≠ 2) := hid hp
  have HLE : Hid (all.length + bs.length ≤ 1000000000) := hlen
  have HCP : Hid (∀ a n c, v = .slice a n c → n ≤ c) := hcap
  clear h hsrc hI hb hT hp hlen hcap
  go_enter Tryz.func61, Tryz.ntmps61
  go_wp2_with fail
  go_loopg [1, 4] bs.length (fun k x _ wr => ∃ (j : Nat) (a : Option Addr) (L c : Nat), j ≤ bs.length ∧ bs.length - j ≤ k ∧ L = (bs.drop j).length ∧ L ≤ c ∧ x = .slice a L c ∧ Hid (Src wr I (.slice a L c) (bs.drop j)) ∧ Hid (Hs wr p (all ++ bs.take j)) ∧ Hid (Kept (· = p) w wr) ∧ Hid (Tab15 wr))
  case atStart =>
    obtain ⟨a, c, e, hc⟩ := id HS.out
    exact ⟨0, a, bs.length, c, by omega, by omega, rfl, HCP.out _ _ _ e, e, hid (by rw [← e]; exact HS.out), hid (by simpa using H.out), hid (Kept.refl _ _), HT⟩
  case round =>
    obtain ⟨j, a, L, c, hj, hjk, hL, hLc, rfl, HSj, Hj, HKj, HTj⟩ := hrel
    rw [List.length_drop] at hL
    by_cases hlt : j < bs.length
    · have hL0 : 0 < L := by omega
      obtain ⟨cs, hcs⟩ : ∃ cs, cs = bs.drop j := ⟨_, rfl⟩
      obtain ⟨al, hal⟩ : ∃ al, al = all ++ bs.take j := ⟨_, rfl⟩
      rw [← hcs] at HSj
      rw [← hal] at Hj
      have hcl : cs.length = L := by rw [hcs, List.length_drop]; omega
      obtain ⟨⟨blk, hB, ht⟩, hby⟩ := Hj.out
      obtain ⟨r, hr⟩ : ∃ r, r = al.length % 64 := ⟨_, rfl⟩
      obtain ⟨sz, hsz⟩ : ∃ x, x = al.length := ⟨_, rfl⟩
      obtain ⟨n, hn⟩ : ∃ n, n = Nat.min L (64 - r) := ⟨_, rfl⟩
      have hr64 : r < 64 := by omega
      have hnL : n ≤ L := by rw [hn]; exact Nat.min_le_left _ _
      have hnr : r + n ≤ 64 := by have : n ≤ 64 - r := by rw [hn]; exact Nat.min_le_right _ _
                                  omega
      have hn1 : 1 ≤ n := by rw [hn]; exact Nat.le_min.2 ⟨hL0, by omega⟩
      have c72 := hB.ncell
      rw [← hsz] at c72
      have f72 := hB.blk.frozen 72
      have hszr : (sz : Int) % 64 = (r : Int) := by omega
      have hszr2 : Int.tmod (sz : Int) 64 = (r : Int) := by rw [Int.tmod_eq_emod_of_nonneg (by omega)]; exact hszr
      have hszB : sz ≤ 1000000000 := by rw [hsz, hal, List.length_append, List.length_take]; have := HLE.out; omega
      obtain ⟨b0, o, ea, hIb, _⟩ : ∃ b o, a = some ⟨b, o, none⟩ ∧ I b ∧ True := by
        obtain ⟨ao, cp, e, hc⟩ := HSj.out
        injection e with e1 e2 e3
        obtain ⟨b, o, e4, hi, _⟩ := hc (by intro q; rw [q] at hcl; simp at hcl; omega)
        exact ⟨b, o, by rw [e1, e4], hi, trivial⟩
      subst ea
      have HCA : Hid (CellsAt wr ⟨b0, o, none⟩ ((cs.take n).map byteV)) := hid (HSj.out.cells n)
      have HRW : Hid (Raw wr p 128 (hCells (blkS al (sz / 64)) blk sz)) := hid (by have := hB.raw; rw [← hsz] at this; exact this)
      have HWD : Hid (Wds 8 (blkS al (sz / 64)) ∧ blk.length = 64 ∧ (∀ x ∈ blk, x < 256)) := hid (by rw [hsz]; exact ⟨hB.wds, hB.len, hB.byt⟩)
      have HTK : Hid (blk.take r = al.drop (64 * (sz / 64))) := hid (by rw [hr, hsz]; exact ht)
      have HN : Hid (n = Nat.min L (64 - r)) := hid hn
      have HCL : Hid (cs.length = L) := hid hcl
      have p0 : (0 : Int) ≤ (r : Int) := by omega
      have p1 : (r : Int) ≤ 64 := by omega
      have p2 : ¬ (64 = r) := by omega
      have HSZ := hid hsz
      have HR := hid hr
      have HAL := hid hal
      have HCS := hid hcs
      have HBA := hid hby
      have HL := hid hL
      clear hn hB ht hby hr hsz hal hcs hcl hIb hL
      go_wp2_with fail
      go_region_law (refine step_copy_k rfl (.tmp 18) (.tmp 19) 52 52 rfl 5 1 Tryz.underlying52 Tryz.sizeU8 p (8 + r) (64 - r) (64 - r) ⟨b0, o, none⟩ L c (by simp [Act.eval, Act.put]) (by simp [Act.eval, Act.put]) _ 128 HRW.out ((cs.take n).map byteV) (by simp [HCL.out, ← HN.out]; omega) HCA.out (by rw [hCells_length HWD.out.1.len HWD.out.2.1]; simp [HCL.out]; omega) (byteV_one _) n (by rw [HN.out]) ?_; intro w7 hr7 hg7; have HR7 := hid hr7; have HK7 : Hid (Kept (· = p) wr w7) := hid ((Kept.refl _ wr).drew.grown hg7 (fun k e => .inl (by cases e; rfl))); clear hr7 hg7)
      obtain ⟨ct, hct⟩ : ∃ ct, ct = cs.take n := ⟨_, rfl⟩
      have HCT : Hid (ct = cs.take n) := hid hct
      have hctl : ct.length = n := by rw [hct, List.length_take, HCL.out]; omega
      have hctb : ∀ x ∈ ct, x < 256 := fun x hx => HBY.out x (by rw [hct, HCS.out] at hx; exact List.mem_of_mem_drop (List.mem_of_mem_take hx))
      have hB7 : HB w7 p (blkS al (sz / 64)) (blk.take r ++ ct ++ blk.drop (r + ct.length)) sz := by
        have h9 := HR7.out
        rw [← hct, splice_h _ _ _ _ _ HWD.out.1.len HWD.out.2.1 (by omega)] at h9
        refine ⟨h9, HWD.out.1, (by have := HWD.out.2.1; simp; omega), fun x hx => ?_⟩
        rcases List.mem_append.1 hx with q | q
        · rcases List.mem_append.1 q with q | q
          · exact HWD.out.2.2 x (List.mem_of_mem_take q)
          · exact hctb x q
        · exact HWD.out.2.2 x (List.mem_of_mem_drop q)
      have c73 := hB7.ncell
      have f73 := hB7.blk.frozen 72
      obtain ⟨sz2, hsz2⟩ : ∃ x, x = sz + n := ⟨_, rfl⟩
      have hszs : (sz : Int) + (n : Int) = (sz2 : Int) := by omega
      obtain ⟨w8, hw8⟩ : ∃ w8, w8 = w7.setCell ⟨p, 72, none⟩ (.int .u64 (sz2 : Nat)) := ⟨_, rfl⟩
      have hB8 := hB7.nset sz2
      rw [← hw8] at hB8
      have HB8 := hid hB8
      have HK8 : Hid (Kept (· = p) wr w8) := hid (by rw [hw8]; exact HK7.out.setCell _ _ (.inl rfl))
      have HT8 : Hid (Tab15 w8) := hid (HTj.out.kept HK8.out (fun e => HP.out e.symm))
      have c74 := hB8.ncell
      obtain ⟨a', ha'⟩ : ∃ a', (if c = n then (some ⟨b0, o, none⟩ : Option Addr) else some ⟨b0, o + n, none⟩) = a' := ⟨_, rfl⟩
      have HS8 : Hid (Src w8 I (.slice a' (L - n) (c - n)) (cs.drop n)) := hid (by
        have h9 := HSj.out.kept HK8.out (fun k hk _ e => HI.out k hk e)
        rw [← HCL.out] at h9 ⊢
        exact h9.rest n a' ha' (by rw [HCL.out]; exact hLc))
      have hszb2 : sz2 ≤ 2000000000 := by omega
      have HZ2 : Hid (sz2 = sz + ct.length) := hid (by omega)
      have HCTL := hid hctl
      have HCTB := hid hctb
      have HM := mix_any w8 p _ _ _ hB8 HT8.out
      obtain ⟨r2, hr2⟩ : ∃ x, x = sz2 % 64 := ⟨_, rfl⟩
      have hr2i : (sz2 : Int) % 64 = (r2 : Int) := by omega
      have q1 : (0 : Int) ≤ (n : Int) := by omega
      have q2 : (n : Int) ≤ (L : Int) := by omega
      have q3 : n ≤ c := by omega
      have HR2 : Hid (r2 = sz2 % 64) := hid hr2
      have HNX : Hid (all ++ bs.take (j + n) = al ++ ct) := hid (by rw [HAL.out, hct, HCS.out, List.append_assoc, ← List.take_add])
      have HSR : Hid (cs.drop n = bs.drop (j + n)) := hid (by rw [HCS.out, List.drop_drop])
      have HKW : Hid (Kept (· = p) w w8) := hid (Kept.trans HKj.out HK8.out (fun _ _ e => e) (fun _ _ e => e))
      have hjn : j + n ≤ bs.length := by have := HL.out; omega
      clear hct hctl hctb hB7 hB8 hsz2 hr2 HR7 HK7 HRW HCA c72 f72
      have HLj : Hid (L - n = (bs.drop (j + n)).length) := hid (by have := HL.out; rw [List.length_drop]; omega)
      go_upto_region 5 with fail
      rw [← hw8]
      clear hw8 c73 f73
      by_cases hz : r2 = 0
      · have h64 : r + n = 64 := by
          have h1 := HR2.out
          have h2 := HZ2.out
          rw [HCTL.out] at h2
          have h3 := HSZ.out
          have h4 := HR.out
          omega
        have HFU : Hid (r + ct.length = 64) := hid (by rw [HCTL.out]; exact h64)
        have hri0 : (sz2 : Int) % 64 = 0 := by rw [hr2i, hz]; rfl
        clear hr2i h64
        go_wp2_with fail
        refine HM.mono ?_
        rintro e w9 ⟨⟨u, rfl⟩, hB9, hk9⟩
        have HS9 : Hid (Src w9 I (.slice a' (L - n) (c - n)) (bs.drop (j + n))) := hid (by rw [← HSR.out]; exact HS8.out.kept hk9 (fun k hk _ e => HI.out k hk e))
        have H9 : Hid (Hs w9 p (all ++ bs.take (j + n))) := hid (by rw [HNX.out]; exact hs_full HSZ.out HR.out HZ2.out HFU.out hB9 HWD.out.2.1 HTK.out HBA.out HCTB.out)
        have HK9 : Hid (Kept (· = p) w w9) := hid (Kept.trans HKW.out hk9 (fun _ _ e => e) (fun _ _ e => e))
        have HT9 : Hid (Tab15 w9) := hid (HT8.out.kept hk9 (fun e => HP.out e.symm))
        clear hB9 hk9 HM
        go_wp2_with fail
        go_roundg (gk - 1)
        case measure => omega
        case rel => exact ⟨j + n, a', L - n, c - n, hjn, by omega, HLj.out, by omega, rfl, HS9, H9, HK9, HT9⟩
      · have h64 : r + n < 64 := by
          have h1 := HR2.out
          have h2 := HZ2.out
          rw [HCTL.out] at h2
          have h3 := HSZ.out
          have h4 := HR.out
          omega
        have HFU : Hid (r + ct.length < 64) := hid (by rw [HCTL.out]; exact h64)
        have hri0 : ((sz2 : Int) % 64 == 0) = false := by rw [hr2i]; simp; omega
        have HS9 : Hid (Src w8 I (.slice a' (L - n) (c - n)) (bs.drop (j + n))) := hid (by rw [← HSR.out]; exact HS8.out)
        have H9 : Hid (Hs w8 p (all ++ bs.take (j + n))) := hid (by rw [HNX.out]; exact hs_short HSZ.out HR.out HZ2.out HFU.out HB8.out HWD.out.2.1 HTK.out HBA.out HCTB.out)
        clear HM h64
        go_wp2_with fail
        go_roundg (gk - 1)
        case measure => omega
        case rel => exact ⟨j + n, a', L - n, c - n, hjn, by omega, HLj.out, by omega, rfl, HS9, H9, HKW, HT8⟩
    · have hj2 : j = bs.length := by omega
      subst hj2
      have hL2 : L = 0 := by omega
      subst hL2
      rw [List.take_of_length_le (Nat.le_refl _)] at Hj
      clear hL hjk hj hLc hlt
      go_wp2_with fail
      go_end0
      exact ⟨⟨_, rfl⟩, Hj.out, HKj.out⟩

end Go.Proofs.YtfhfnkhiomahfaaGreatDoor
