import Derived.Test.YtljlmfnbeofmmaaGreatDoorZqG
namespace Go.Proofs.YtljlmfnbeofmmaaGreatDoor
open Go.RowKit

theorem Src.cut8 {w : World} {I : Nat → Prop} {b o n c : Nat} {bs : List Nat} (hs : Src w I (.slice (some ⟨b, o, none⟩) n c) bs) (i j : Nat) (hij : i ≤ j) (hj : j ≤ bs.length) (c' : Nat) : Src w I (.slice (some ⟨b, o + i, none⟩) (j - i) c') ((bs.take j).drop i) := by
 obtain ⟨ao, cap, e, h9⟩ := hs
 simp only [Value.slice.injEq] at e
 obtain ⟨rfl, _, rfl⟩ := e
 refine ⟨_, _, by rw [List.length_drop, List.length_take, Nat.min_eq_left hj], fun hne => ?_⟩
 have hl : i < j := by
  refine Classical.byContradiction (fun hc => hne ?_)
  exact List.drop_eq_nil_of_le (by rw [List.length_take]; omega)
 obtain ⟨b', o', e4, h5, h6⟩ := h9 (fun e => by rw [e] at hj; simp at hj; omega)
 simp only [Option.some.injEq, Addr.mk.injEq, and_true] at e4
 obtain ⟨rfl, rfl⟩ := e4
 refine ⟨b, o + i, rfl, h5, fun k hk => ?_⟩
 rw [List.length_drop, List.length_take] at hk
 have := h6 (i + k) (by omega)
 rw [List.getElem_drop, List.getElem_take, Nat.add_assoc]
 exact this

theorem opI_two {w w3 : World} {fs cnt b o c pn : Nat} {P0 R0 : List Nat} {o8 : Except Nat (List It)} (hk : Same w w3) (h8 : o8 = opn8 fs cnt P0 R0 []) (hsp : Src w (fun k => k < w.heap.size) (.slice (some ⟨b, o, none⟩) fs c) P0) (hsr : Src w (fun k => k < w.heap.size) (.slice (some ⟨b, o + fs, none⟩) (pn - fs) (c - fs)) R0) (hl : P0.length = fs ∧ R0.length = pn - fs) (hby : (∀ x ∈ P0, x < 256) ∧ (∀ x ∈ R0, x < 256)) (h1 : fs ≤ pn) (h2 : pn ≤ c) (h3 : pn ≤ 1048576) {wx : World} {pb rb : Nat} (hkx : Same w3 wx) (hb1 : Blk wx pb #[.slice (some ⟨b, o, none⟩) fs c] 129) (hb2 : Blk wx rb #[.slice (some ⟨b, o + fs, none⟩) (pn - fs) (c - fs)] 129) (hn1 : w3.heap.size ≤ pb) (hn2 : w3.heap.size ≤ rb) (hne : pb ≠ rb) : OpI w wx fs o8 cnt pb rb 0 (.slice none 0 0) [] [] P0 R0 (some ⟨b, o, none⟩) (some ⟨b, o + fs, none⟩) c (c - fs) := by
 have hkk := Same.trans hk hkx
 have hsz := hk.size
 refine ⟨RowC.nil, Its.nil _ _, rfl, ⟨by rw [hl.1]; exact hb1, by rw [hl.1]; exact hsp.kept hkk (fun _ _ _ f => f), by omega, by omega, hby.1, by omega, by simp⟩, ⟨by rw [hl.2]; exact hb2, by rw [hl.2]; exact hsr.kept hkk (fun _ _ _ f => f), by omega, by omega, hby.2, by omega, by simp⟩, hkk, h8, hne, by omega⟩

theorem cellsAt_it (w : World) (x : Itv) : CellsAt (w.alloc (.cells #[.int .u16 (x.m.way : Nat), .int .u32 (x.m.sum : Nat), .int .u32 (x.m.packed : Nat), .int .u32 (x.m.size : Nat), .string (txt x.m.name), .slice x.a x.n x.c] 78)) ⟨w.heap.size, 0, none⟩ ([x].flatMap itE) := by
 intro j u hj
 match j, hj with
 | 0, hj => simp [itE] at hj; subst hj; simp [addAt]
 | 1, hj => simp [itE] at hj; subst hj; simp [addAt]
 | 2, hj => simp [itE] at hj; subst hj; simp [addAt]
 | 3, hj => simp [itE] at hj; subst hj; simp [addAt]
 | 4, hj => simp [itE] at hj; subst hj; simp [addAt]
 | 5, hj => simp [itE] at hj; subst hj; simp [addAt]
 | j + 6, hj => simp [itE] at hj

set_option maxRecDepth 100000 in
set_option maxHeartbeats 400000 in
theorem open_loop (w : World) (b o : Nat) (c : Nat) (bs : List Nat) (n : Nat) (hL : n = bs.length) (hs : Src w (fun k => k < w.heap.size) (.slice (some ⟨b, o, none⟩) n c) bs) (hb : ∀ x ∈ bs, x < 256) (hcap : n ≤ c) (h1 : 22 ≤ n) (h2 : n ≤ 1048576) (cnt fs : Nat) (he : end8 (bs.drop (n - 22)) (n - 22) = .ok (cnt, fs)) (hf : fs ≤ n - 22) (h64 : cnt ≤ 64) (hx : Mxl w) :
  Calls Tryz.prog 51 #[.slice (some ⟨b, o, none⟩) n c] w fun e w' => OpnA w w' (opn8 fs cnt (bs.take fs) ((bs.take (n - 22)).drop fs) []) e := by
 have b1 : decide ((n : Int) ≤ 1048576) = true := by simp; omega
 have b2 : decide (n ≤ 1048576) = true := by simp; omega
 have b3 : decide ((22 : Int) ≤ (n : Int)) = true := by simp; omega
 have b4 : decide (22 ≤ n) = true := by simp; omega
 obtain ⟨p, hp⟩ : ∃ p, p = n - 22 := ⟨_, rfl⟩
 rw [← hp] at he hf ⊢
 have hpI : (n : Int) - 22 = (p : Int) := by omega
 have hpw : IntKind.i64.wrap (p : Int) = (p : Int) := by rw [IntKind.wrap_i64]; omega
 have i1 : (0 : Int) ≤ (p : Int) := by omega
 have i2 : (p : Int) ≤ (n : Int) := by omega
 have i3 : (n : Int) ≤ (c : Int) := by omega
 have HO := need_ok w (.int .i64 2)
 have HP := need_ok w (.int .i64 81)
 have hdl : (bs.drop p).length = 22 := by rw [List.length_drop]; omega
 have HSD : Hid (∀ c', Src w (fun k => k < w.heap.size) (.slice (some ⟨b, o + p, none⟩) (bs.drop p).length c') (bs.drop p)) := hid (fun c' => by
  have h9 := hs.cut8 p n (by omega) (by omega) c'
  rw [List.take_of_length_le (by omega)] at h9
  rw [hdl]
  rw [show n - p = 22 by omega] at h9
  exact h9)
 have HE : Hid (∀ c', 22 ≤ c' → Calls Tryz.prog 91 #[.slice (some ⟨b, o + p, none⟩) 22 c', .int .i64 (p : Nat)] w fun e w' => EndA w w' (end8 (bs.drop p) p) e) := hid (fun c' h9 => by
  have h8 := end_any w.heap.size w (bs.drop p) (some ⟨b, o + p, none⟩) c' p (HSD.out c') (by omega) (Nat.le_refl _) (fun x hx => hb x (List.mem_of_mem_drop hx)) (by omega) (by omega) (by simp)
  rw [hdl] at h8
  exact h8)
 have hnp : n - p = 22 := by omega
 have HER : Hid (end8 (bs.drop p) p = .ok (cnt, fs)) := he
 have HSP : Hid (Src w (fun k => k < w.heap.size) (.slice (some ⟨b, o, none⟩) fs c) (bs.take fs)) := hid (by
  have h9 := hs.cut8 0 fs (by omega) (by omega) c
  simpa using h9)
 have HSR : Hid (Src w (fun k => k < w.heap.size) (.slice (some ⟨b, o + fs, none⟩) (p - fs) (c - fs)) ((bs.take p).drop fs)) := hid (hs.cut8 fs p hf (by omega) _)
 have HBY : Hid (∀ x ∈ bs, x < 256) := hb
 have HLP : Hid ((bs.take fs).length = fs ∧ ((bs.take p).drop fs).length = p - fs) := hid ⟨by rw [List.length_take]; omega, by rw [List.length_drop, List.length_take]; omega⟩
 have HX : Hid (Mxl w) := hx
 have j1 : (0 : Int) ≤ (fs : Int) := by omega
 have j2 : (fs : Int) ≤ (p : Int) := by omega
 have j3 : (fs : Int) ≤ (c : Int) := by omega
 have j4 : (p : Int) ≤ (c : Int) := by omega
 have j5 : ¬ c = fs := by omega
 have hfsb : fs ≤ 1048576 := by omega
 have hpb : p ≤ 1048576 := by omega
 have hfp : fs ≤ p := hf
 have hpc : p ≤ c := by omega
 obtain ⟨P0, hP0⟩ : ∃ P, P = bs.take fs := ⟨_, rfl⟩
 obtain ⟨R0, hR0⟩ : ∃ R, R = (bs.take p).drop fs := ⟨_, rfl⟩
 have HPR : Hid ((∀ x ∈ P0, x < 256) ∧ (∀ x ∈ R0, x < 256)) := hid (by
  rw [hP0, hR0]
  exact ⟨fun x hx => hb x (List.mem_of_mem_take hx), fun x hx => hb x (List.mem_of_mem_take (List.mem_of_mem_drop hx))⟩)
 rw [← hP0] at HSP HLP ⊢
 rw [← hR0] at HSR HLP ⊢
 obtain ⟨o8, ho8⟩ : ∃ x, x = opn8 fs cnt P0 R0 [] := ⟨_, rfl⟩
 have HO8 : Hid (o8 = opn8 fs cnt P0 R0 []) := ho8
 rw [← ho8]
 clear hs hb h1 h2 hdl he hp hL hP0 hR0 HBY ho8 hx hf
 go_enter Tryz.func51, Tryz.ntmps51
 go_wp2_with fail
 refine HO.mono ?_
 rintro e w1 ⟨rfl, hw1⟩
 subst hw1
 clear HO
 go_wp2_with fail
 refine HP.mono ?_
 rintro e w2 ⟨rfl, hw2⟩
 subst hw2
 clear HP
 go_wp2_with fail
 refine (HE.out _ (by omega)).mono ?_
 intro e w3 h3
 obtain ⟨rfl, hk3⟩ := h3.1 cnt fs HER.out
 have HK3 : Hid (Same w2 w3) := hk3
 clear h3 hk3
 go_upto_region 5 with fail
 go_cut [6, 7] from 30 to 40 (fun z6 z7 wx => ∃ pb rb, z6 = .pointer (some ⟨pb, 0, none⟩) ∧ z7 = .pointer (some ⟨rb, 0, none⟩) ∧ Hid (OpI w2 wx fs o8 cnt pb rb 0 (.slice none 0 0) [] [] P0 R0 (some ⟨b, o, none⟩) (some ⟨b, o + fs, none⟩) c (c - fs)))
 case first =>
  go_region
  ·go_wp2_with fail
   go_meet
   refine ⟨_, _, rfl, rfl, hid (opI_two HK3.out HO8.out HSP.out HSR.out HLP.out HPR.out hfp hpc hpb ((((Kept.refl _ w3).alloc _).alloc _).drew) ?_ ?_ (Nat.le_refl _) (Nat.le_succ _) (by omega))⟩
   ·exact (Blk.new w3 _ _).kept (show Same _ _ from ((Kept.refl _ _).alloc _).drew) (fun f => f)
   ·have h9 := Blk.new (w3.alloc (.cells #[.slice (some ⟨b, o, none⟩) fs c] 129)) #[.slice (some ⟨b, o + fs, none⟩) (p - fs) (c - fs)] 129
    rw [World.size_alloc] at h9
    exact h9
  ·go_wp2_with fail
   go_meet
   refine ⟨_, _, rfl, rfl, hid (opI_two HK3.out HO8.out HSP.out HSR.out HLP.out HPR.out hfp hpc hpb ((((Kept.refl _ w3).alloc _).alloc _).drew) ?_ ?_ (Nat.le_succ _) (Nat.le_refl _) (by omega))⟩
   ·have h9 := Blk.new (w3.alloc (.cells #[.slice (some ⟨b, o + fs, none⟩) (p - fs) (c - fs)] 129)) #[.slice (some ⟨b, o, none⟩) fs c] 129
    rw [World.size_alloc] at h9
    exact h9
   ·exact (Blk.new w3 _ _).kept (show Same _ _ from ((Kept.refl _ _).alloc _).drew) (fun f => f)
 case rest =>
  obtain ⟨pb, rb, rfl, rfl, HI0⟩ := hcut
  clear HSD HE HSP HSR HLP HPR HO8 HER HK3 j1 j2 j3 j4 j5 i1 i2 i3 hpI hpw hnp hcap hpc hpb hfp
  go_wp2_with fail
  go_loopg [8, 42] cnt (fun qq z8 z42 wr => ∃ (i : Nat) (xs : List Itv) (L : List It) (P R : List Nat) (ap ar : Option Addr) (cp cr : Nat), z42 = .int .i64 (i : Nat) ∧ i ≤ cnt ∧ cnt - i ≤ qq ∧ Hid (OpI w2 wr fs o8 (cnt - i) pb rb i z8 xs L P R ap ar cp cr))
  case atStart => exact ⟨0, [], [], P0, R0, _, _, _, _, rfl, by omega, by omega, HI0⟩
  case round =>
   clear HI0
   obtain ⟨i, xs, L, P, R, ap, ar, cp, cr, rfl, hi1, hiq, HI⟩ := hrel
   obtain ⟨v0, hv0⟩ : ∃ v, v = u8 := ⟨_, rfl⟩
   rw [← hv0] at HI
   rw [← hv0]
   clear hv0
   obtain ⟨a0, c0, hv0, _, _, hc0, _⟩ := HI.out.row.shape
   have hxl : xs.length = i := by rw [HI.out.its.1, HI.out.len]
   rw [hxl] at hv0 hc0
   subst hv0
   have HXL : Hid (xs.length = i) := hxl
   obtain ⟨np, hnp⟩ : ∃ n, n = P.length := ⟨_, rfl⟩
   obtain ⟨nr, hnr⟩ : ∃ n, n = R.length := ⟨_, rfl⟩
   have HNP : Hid (np = P.length ∧ nr = R.length) := hid ⟨hnp, hnr⟩
   have hnpf : np ≤ fs := by rw [hnp]; exact HI.out.fit
   clear hnp hnr hxl
   by_cases hi : i < cnt
   ·have hli : decide (i < cnt) = true := by simp; omega
    obtain ⟨k, hk⟩ : ∃ k, cnt - i = k + 1 := ⟨cnt - i - 1, by omega⟩
    have HLF : Hid (cnt - i = k + 1 ∧ cnt - (i + 1) = k) := hid ⟨hk, by omega⟩
    have hiw : IntKind.i64.wrap ((i : Int) + 1) = ((i + 1 : Nat) : Int) := by rw [IntKind.wrap_i64]; omega
    have HEQ : Hid (o8 = opn8 fs (k + 1) P R L) := hid (by rw [← hk]; exact HI.out.eq)
    have H1 := rec_any w2.heap.size wr rb R ar cr HI.out.recs
    clear hk
    go_wp2_with fail
    refine H1.mono ?_
    intro e w4 h4
    cases ht : rec8 R with
    | none =>
     obtain ⟨rfl, hk4⟩ := h4.2 ht
     have HF : Hid (OpnA w2 w4 o8 (pan8 81)) := hid (OpnA.bad (by rw [HEQ.out]; exact opn8_rec ht) rfl (HI.out.same.then hk4 (fun x hx e => by have := HI.out.recs.new; omega)))
     clear h4 hk4 ht H1
     unfold pan8
     go_wp2_with fail
     exact ⟨rfl, HF.out⟩
    | some q =>
     obtain ⟨⟨m, at'⟩, R'⟩ := q
     obtain ⟨ar', cr', rfl, hmk, hnb, hat, hcur, hk4⟩ := h4.1 m at' R' ht
     have HT : Hid (rec8 R = some ((m, at'), R')) := ht
     have HM : Hid (MkOk m ∧ (∀ b ∈ m.name, b < 256)) := hid ⟨hmk, hnb⟩
     have hoff : (Value.slice a0 i c0).ownBlock ≠ some rb := HI.out.row.off HI.out.recs.blk (by decide)
     have HR4 : Hid (RowC w2.heap.size 78 6 itE w4 (.slice a0 i c0) xs) := hid (HI.out.row.kept hk4 (fun j e f => hoff (by rw [e, f])))
     have HI4 : Hid (Its w2.heap.size w4 xs L) := hid (HI.out.its.kept hk4 (fun x hx e => by have := HI.out.recs.new; omega))
     have HP4 : Hid (Cur w2.heap.size w4 pb P ap cp) := hid (HI.out.pie.kept hk4 HI.out.two (fun x hx e => by have := HI.out.recs.new; omega))
     have HC4 : Hid (Cur w2.heap.size w4 rb R' ar' cr') := hcur
     have HK4 : Hid (Same w2 w4) := hid (HI.out.same.then hk4 (fun x hx e => by have := HI.out.recs.new; omega))
     obtain ⟨wA, hwA⟩ : ∃ W, W = w4.alloc (.cells #[.int .u16 (m.way : Nat), .int .u32 (m.sum : Nat), .int .u32 (m.packed : Nat), .int .u32 (m.size : Nat), .string (txt m.name)] 60) := ⟨_, rfl⟩
     obtain ⟨lb, hlb⟩ : ∃ b, b = w4.heap.size := ⟨_, rfl⟩
     have HLA : Hid (LabBk wA lb m) := hid (by rw [hwA, hlb]; exact Blk.new w4 _ _)
     have HKA : Hid (Same w4 wA) := hid (by rw [hwA]; exact (Kept.refl _ w4).alloc _)
     have HCL := checkLabel_any wA m a0 i c0 _ _ (Itms.ofRow (HR4.out.kept HKA.out (fun _ _ f => f)) HXL.out.symm) (by omega) hnb (fun j hj => HI4.out.nam j (by have := HXL.out; omega)) (HX.out.kept (Same.trans HK4.out HKA.out) (fun f => f))
     have hnms : nmsOf (fun j => (xs.getD j default).m) i = names8 L := by have h9 := HI4.out.names; rw [HXL.out] at h9; exact h9
     rw [hnms] at HCL
     obtain ⟨c0', c1', c2', c3', c4'⟩ := HLA.out.cells
     obtain ⟨ck, hck⟩ : ∃ x, x = chk8 m (names8 L) := ⟨_, rfl⟩
     rw [← hck] at HCL
     have HCK : Hid (ck = chk8 m (names8 L)) := hck
     unfold mkZ at HCL ⊢
     clear h4 hk4 ht H1 hmk hnb hoff hcur hnms hck
     go_wp2_with fail
     rw [← hwA, ← hlb]
     clear hwA hlb
     refine HCL.mono ?_
     intro e w5 h5
     obtain ⟨h50, h51, hk5⟩ := h5
     have HK5 : Hid (Same w4 w5) := hid (Same.trans HKA.out hk5)
     by_cases hz : ck = 0
     ·have h50 := h50 hz
      subst h50
      have HZ : Hid (chk8 m (names8 L) = 0) := hid (by rw [← HCK.out]; exact hz)
      have HL5 : Hid (LabBk w5 lb m) := hid (HLA.out.kept hk5)
      have HP5 : Hid (Cur w2.heap.size w5 pb P ap cp) := hid (HP4.out.kept HK5.out (fun f => f) (fun _ _ f => f))
      obtain ⟨d0, d1, d2, d3, d4⟩ := HL5.out.cells
      have p0 : w5.cell? ⟨pb, 0, none⟩ = some (.slice ap np cp) := by have h9 := HP5.out.blk.cell 0; rw [HNP.out.1]; simpa using h9
      obtain ⟨dz, hdz⟩ : ∃ d, d = fs - np := ⟨_, rfl⟩
      have hdI : (fs : Int) - (np : Int) = (dz : Int) := by omega
      have hdw : IntKind.i64.wrap (dz : Int) = (dz : Int) := by rw [IntKind.wrap_i64]; omega
      have hdu : IntKind.u32.wrap (dz : Int) = (dz : Int) := by rw [IntKind.wrap_u32]; omega
      have HDZ : Hid (dz = fs - P.length) := hid (by rw [← HNP.out.1]; exact hdz)
      clear h51 hk5 HCL hz HCK c0' c1' c2' c3' c4' hdz HLA
      by_cases ha : at' = dz
      ·have hab : ((at' : Int) == (dz : Int)) = true := by simp; omega
       have HA : Hid (at' = fs - P.length) := hid (by rw [← HDZ.out]; exact ha)
       have HO := need_ok w5 (.int .i64 81)
       have HPI := pie_any w2.heap.size w5 pb m P ap cp HP5.out HM.out.1 HM.out.2 (chk8_zero HZ.out).2.2.2.2.1
       unfold mkZ at HPI
       clear ha hat
       go_wp2_with fail
       refine HO.mono ?_
       rintro e w6 ⟨rfl, hw6⟩
       subst hw6
       clear HO p0
       go_wp2_with fail
       refine HPI.mono ?_
       intro e w7 h7
       cases hp7 : pie8 m P with
       | none =>
        obtain ⟨rfl, hk7⟩ := h7.2 hp7
        have HF : Hid (OpnA w2 w7 o8 (pan8 81)) := hid (OpnA.bad (by rw [HEQ.out]; exact opn8_pie HT.out HZ.out HA.out hp7) rfl ((Same.trans HK4.out HK5.out).then hk7 (fun x hx e => by have := HP5.out.new; omega)))
        clear h7 hk7 hp7 HPI
        unfold pan8
        go_wp2_with fail
        exact ⟨rfl, HF.out⟩
       | some q =>
        obtain ⟨bb, P'⟩ := q
        obtain ⟨v7, ap', cp', rfl, htk, hcur, hk7⟩ := h7.1 bb P' hp7
        obtain ⟨va, vc, hv7⟩ := htk.shp
        subst hv7
        have HTK : Hid (Tkn w2.heap.size w7 (.slice va m.packed vc) m.packed bb) := htk
        have HC7 : Hid (Cur w2.heap.size w7 pb P' ap' cp') := hcur
        have hoff : (Value.slice a0 i c0).ownBlock ≠ some pb := (HR4.out.kept HK5.out (fun _ _ f => f)).off HP5.out.blk (by decide)
        have HR7 : Hid (RowC w2.heap.size 78 6 itE w7 (.slice a0 i c0) xs) := hid ((HR4.out.kept HK5.out (fun _ _ f => f)).kept hk7 (fun j e f => hoff (by rw [e, f])))
        have HI7 : Hid (Its w2.heap.size w7 xs L) := hid ((HI4.out.kept HK5.out (fun _ _ f => f)).kept hk7 (fun x hx e => by have := HP5.out.new; omega))
        have HRC7 : Hid (Cur w2.heap.size w7 rb R' ar' cr') := hid ((HC4.out.kept HK5.out (fun f => f) (fun _ _ f => f)).kept hk7 (fun e => HI.out.two e.symm) (fun x hx e => by have := HP5.out.new; omega))
        have HK7 : Hid (Same w2 w7) := hid ((Same.trans HK4.out HK5.out).then hk7 (fun x hx e => by have := HP5.out.new; omega))
        have HEQ7 : Hid (o8 = opn8 fs k P' R' (L ++ [⟨m, bb⟩])) := hid (by rw [HEQ.out]; exact opn8_next HT.out HZ.out HA.out hp7)
        have HFIT : Hid (P'.length ≤ fs) := hid (Nat.le_trans (pie8_len hp7).1 HI.out.fit)
        have hi64 : i ≤ 64 := by omega
        unfold itZ
        clear h7 htk hcur hk7 hp7 HPI hoff d0 d1 d2 d3 d4
        go_wp2_with (at_builtin; refine wpList_append_c _ itE 6 itE_ok (by decide) w2.heap.size 75 78 (.agg #[.int .u16 0, .int .u32 0, .int .u32 0, .int .u32 0, .string ⟨#[]⟩, .slice none 0 0]) 56 Tryz.underlying75 Tryz.infoItem rfl (by decide) rfl (.tmp 63) (.tmp 67) rfl (.slice a0 i c0) xs rfl (HR7.out.kept (show Same _ _ from (Kept.refl _ _).alloc _) (fun _ _ f => f)) ⟨w7.heap.size, 0, none⟩ 1 1 [⟨m, va, m.packed, vc⟩] rfl rfl (cellsAt_it w7 ⟨m, va, m.packed, vc⟩) (by have := HXL.out; simp; omega) (by have := HK7.out.size; simp; omega) ?_; intro v8 w8 hr8 hg8)
        obtain ⟨wB, hwB⟩ : ∃ W, W = w7.alloc (.cells #[.int .u16 (m.way : Nat), .int .u32 (m.sum : Nat), .int .u32 (m.packed : Nat), .int .u32 (m.size : Nat), .string (txt m.name), .slice va m.packed vc] 78) := ⟨_, rfl⟩
        have hg8' : wB.grownBy w8 (Value.slice a0 i c0).ownBlock := by rw [hwB]; exact hg8
        have hkB : Same w7 wB := by rw [hwB]; exact (Kept.refl _ w7).alloc _
        have hk8 : Kept (fun k => (Value.slice a0 i c0).ownBlock = some k) wB w8 := (Kept.refl _ wB).grown hg8' (fun k e => .inl e)
        have hlow : ∀ x, x < w2.heap.size → ¬ (Value.slice a0 i c0).ownBlock = some x := fun x hx e => by have := HR7.out.ge e; omega
        have HF : Hid (OpI w2 w8 fs o8 (cnt - (i + 1)) pb rb (i + 1) v8 (xs ++ [⟨m, va, m.packed, vc⟩]) (L ++ [⟨m, bb⟩]) P' R' ap' ar' cp' cr') := hid (by
         refine ⟨hr8, ?_, by rw [List.length_append, HI.out.len]; rfl, ?_, ?_, (Same.trans HK7.out hkB).then hk8 hlow, by rw [HLF.out.2]; exact HEQ7.out, HI.out.two, HFIT.out⟩
         ·refine ((HI7.out.kept hkB (fun _ _ f => f)).kept hk8 hlow).snoc ?_
          exact ⟨rfl, (HTK.out.src.kept hkB (fun _ _ _ f => f)).kept hk8 (fun x hx _ => hlow x hx), HTK.out.len.symm, HTK.out.byte, HM.out.2, HM.out.1, HTK.out.len, ⟨_, HZ.out⟩, fun e => HTK.out.adr m.packed vc (by show Value.slice va m.packed vc = _; rw [show va = none from e])⟩
         ·refine (HC7.out.kept hkB (fun f => f) (fun _ _ f => f)).kept hk8 (fun e => ?_) hlow
          exact (HR7.out.off HC7.out.blk (by decide)) e
         ·refine (HRC7.out.kept hkB (fun f => f) (fun _ _ f => f)).kept hk8 (fun e => ?_) hlow
          exact (HR7.out.off HRC7.out.blk (by decide)) e)
        clear hr8 hg8 hwB hg8' hkB hk8 hlow
        go_wp2_with fail
        go_roundg (gk - 1)
        case measure => omega
        case rel => exact ⟨i + 1, _, _, _, _, _, _, _, _, by go_num, by omega, by omega, HF⟩
      ·have hab : ((at' : Int) == (dz : Int)) = false := by simp; omega
       have HO := need_bad w5 81
       have HF : Hid (OpnA w2 w5 o8 (pan8 81)) := hid (OpnA.bad (by rw [HEQ.out]; exact opn8_at HT.out HZ.out (by rw [← HDZ.out]; exact ha)) rfl (Same.trans HK4.out HK5.out))
       clear ha
       go_wp2_with fail
       refine HO.mono ?_
       rintro e w6 ⟨rfl, hw6⟩
       subst hw6
       clear HO
       unfold pan8
       go_wp2_with fail
       exact ⟨rfl, HF.out⟩
     ·have h51 := h51 hz
      subst h51
      have HF : Hid (OpnA w2 w5 o8 (pan8 ck)) := hid (OpnA.bad (by rw [HEQ.out, HCK.out]; exact opn8_chk HT.out (by rw [← HCK.out]; exact hz)) rfl (Same.trans HK4.out HK5.out))
      clear h50 hk5 HCL hz c0' c1' c2' c3' c4'
      unfold pan8
      go_wp2_with fail
      exact ⟨rfl, HF.out⟩
   ·have hli : decide (i < cnt) = false := by simp; omega
    obtain rfl : i = cnt := by omega
    have HEQ : Hid (o8 = if np = 0 ∧ nr = 0 then .ok L else .error 81) := hid (by rw [HI.out.eq, Nat.sub_self, opn8, HNP.out.1, HNP.out.2])
    have p0 : wr.cell? ⟨pb, 0, none⟩ = some (.slice ap np cp) := by have h9 := HI.out.pie.blk.cell 0; rw [HNP.out.1]; simpa using h9
    have r0 : wr.cell? ⟨rb, 0, none⟩ = some (.slice ar nr cr) := by have h9 := HI.out.recs.blk.cell 0; rw [HNP.out.2]; simpa using h9
    by_cases hp0 : np = 0
    ·have q1 : ((np : Int) == 0) = true := by simp; omega
     by_cases hr0 : nr = 0
     ·have q2 : ((nr : Int) == 0) = true := by simp; omega
      have HO := need_ok wr (.int .i64 81)
      have HE2 : Hid (o8 = .ok L) := hid (by rw [HEQ.out, if_pos ⟨hp0, hr0⟩])
      clear hp0 hr0
      go_wp2_with fail
      refine HO.mono ?_
      rintro e w6 ⟨rfl, hw6⟩
      subst hw6
      clear HO
      go_wp2_with fail
      go_ret
      exact OpnA.good HE2.out rfl HI.out.row HI.out.its HXL.out.symm hc0 (by omega) HI.out.same
     ·have q2 : ((nr : Int) == 0) = false := by simp; omega
      have HO := need_bad wr 81
      have HF : Hid (OpnA w2 wr o8 (pan8 81)) := hid (OpnA.bad (by rw [HEQ.out, if_neg (fun h => hr0 h.2)]) rfl HI.out.same)
      clear hr0 hp0
      go_wp2_with fail
      refine HO.mono ?_
      rintro e w6 ⟨rfl, hw6⟩
      subst hw6
      clear HO
      unfold pan8
      go_wp2_with fail
      exact ⟨rfl, HF.out⟩
    ·have q1 : ((np : Int) == 0) = false := by simp; omega
     have HO := need_bad wr 81
     have HF : Hid (OpnA w2 wr o8 (pan8 81)) := hid (OpnA.bad (by rw [HEQ.out, if_neg (fun h => hp0 h.1)]) rfl HI.out.same)
     clear hp0
     go_wp2_with fail
     refine HO.mono ?_
     rintro e w6 ⟨rfl, hw6⟩
     subst hw6
     clear HO
     unfold pan8
     go_wp2_with fail
     exact ⟨rfl, HF.out⟩

end Go.Proofs.YtljlmfnbeofmmaaGreatDoor
