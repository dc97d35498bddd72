/-
  Of the proof: parts MtA, MtB, MtC, MtD.
-/
import Derived.Test.YtggcbnhckcenmabGreatDoorJ1
import Derived.Test.YtggcbnhckcenmabGreatDoorJ10
import Derived.Test.YtggcbnhckcenmabGreatDoorJ3
import Derived.Test.YtggcbnhckcenmabGreatDoorJ11

namespace Go.Proofs.YtggcbnhckcenmabGreatDoor
open Go.RowKit

def tkC (t : TK) : List Value := [.int .u8 (t.lit : Nat), .int .i64 t.len, .int .i64 t.dist]
def tkA (t : TK) : Array Value := #[.int .u8 (t.lit : Nat), .int .i64 t.len, .int .i64 t.dist]

theorem tkC_ok : EncOk tkC 3 := ⟨fun _ => rfl, fun x u hu => by simp [tkC] at hu; rcases hu with rfl | rfl | rfl <;> rfl, by decide⟩

abbrev TkRow (B : Nat) := RowC B 64 3 tkC
abbrev TkSrc := @SrcC TK 3 tkC

theorem Tryz.infoTk : (Tryz.prog.info? 64).map (fun i => (i.zero, i.size, i.bytes)) = some (some (.agg #[.int .u8 0, .int .i64 0, .int .i64 0]), 3, 24) := by kernel_rfl

def inT (n lo hi : Int) : Bool := decide (lo ≤ n) && decide (n ≤ hi)

set_option maxHeartbeats 1000000 in
theorem mwithin_any (w : World) (n lo hi : Int) :
  Calls Tryz.prog 32 #[.int .i64 n, .int .i64 lo, .int .i64 hi] w fun e w' => e = .returned (.bool (inT n lo hi)) ∧ w' = w := by
 go_enter Tryz.func32, Tryz.ntmps32
 by_cases h : lo ≤ n
 ·go_wp2_with fail
  go_ret
  exact ⟨by simp only [inT, h, decide_true, Bool.true_and]; rfl, rfl⟩
 ·go_wp2_with fail
  go_ret
  have hd : decide (lo ≤ n) = false := by simp; omega
  exact ⟨by simp only [inT, hd, Bool.false_and]; rfl, rfl⟩

theorem mayT_zero {t : TK} (h : t.len = 0) (said : Nat) : mayT t said = (t.dist == 0) := by
 unfold mayT; rw [if_pos h, Bool.eq_iff_iff]; simp
theorem mayT_copy {t : TK} (h : t.len ≠ 0) (said : Nat) : mayT t said = (decide (t.lit = 0) && (inT t.len 3 258 && inT t.dist 1 (said : Int))) := by
 unfold mayT; rw [if_neg h, Bool.eq_iff_iff]; simp [inT, and_assoc]

set_option maxRecDepth 100000 in
set_option maxHeartbeats 2000000 in
theorem mmay_any (w : World) (t : TK) (said : Nat) :
  Calls Tryz.prog 50 #[.agg (tkA t), .int .i64 (said : Nat)] w fun e w' => e = .returned (.bool (mayT t said)) ∧ Same w w' := by
 obtain ⟨lit, len, dist⟩ := t
 have HW1 := mwithin_any (w.alloc (.cells #[.int .u8 (lit : Nat), .int .i64 len, .int .i64 dist] 64)) len 3 258
 have HW2 := mwithin_any (w.alloc (.cells #[.int .u8 (lit : Nat), .int .i64 len, .int .i64 dist] 64)) dist 1 (said : Nat)
 have HK0 : Hid (Same w (w.alloc (.cells #[.int .u8 (lit : Nat), .int .i64 len, .int .i64 dist] 64))) := hid ((Kept.refl _ w).alloc _)
 by_cases h0 : len = 0
 ·have HM : Hid (mayT ⟨lit, len, dist⟩ said = (dist == 0)) := hid (mayT_zero h0 said)
  have e0 : (len == 0) = true := by simp [h0]
  clear h0 HW1 HW2
  simp only [tkA]
  go_enter Tryz.func50, Tryz.ntmps50
  go_wp2_with fail
  go_ret
  exact ⟨by rw [HM.out]; rfl, HK0.out⟩
 ·have HM : Hid (mayT ⟨lit, len, dist⟩ said = (decide (lit = 0) && (inT len 3 258 && inT dist 1 (said : Int)))) := hid (mayT_copy h0 said)
  have e0 : (len == 0) = false := by simp [h0]
  clear h0
  simp only [tkA]
  by_cases hl : lit = 0
  ·subst hl
   cases h1 : inT len 3 258 with
   | false =>
    rw [h1] at HW1 HM
    clear h1 HW2
    go_enter Tryz.func50, Tryz.ntmps50
    go_wp2_with fail
    refine HW1.mono ?_
    rintro e w1 ⟨rfl, rfl⟩
    clear HW1
    go_wp2_with fail
    go_ret
    exact ⟨by rw [HM.out]; rfl, HK0.out⟩
   | true =>
    rw [h1] at HW1 HM
    clear h1
    go_enter Tryz.func50, Tryz.ntmps50
    go_wp2_with fail
    refine HW1.mono ?_
    rintro e w1 ⟨rfl, rfl⟩
    clear HW1
    go_wp2_with fail
    refine HW2.mono ?_
    rintro e w1 ⟨rfl, rfl⟩
    clear HW2
    go_wp2_with fail
    go_ret
    exact ⟨by rw [HM.out]; rfl, HK0.out⟩
  ·have el : ((lit : Int) == 0) = false := by simp; omega
   have HL : Hid (decide (lit = 0) = false) := hid (by simp [hl])
   clear hl HW1 HW2
   go_enter Tryz.func50, Tryz.ntmps50
   go_wp2_with fail
   go_ret
   exact ⟨by rw [HM.out, HL.out]; rfl, HK0.out⟩

end Go.Proofs.YtggcbnhckcenmabGreatDoor

namespace Go.Proofs.YtggcbnhckcenmabGreatDoor
open Go.RowKit

def okT : Except Nat Nat → Nat
 | .ok n => n
 | .error _ => 0

theorem TkSrc.at {w w' : World} {I : Nat → Prop} {ao : Option Addr} {n cap : Nat} {ts : List TK} (h : TkSrc w I (.slice ao n cap) ts) (hk : Same w w') (j : Nat) (hj : j < ts.length) :
  ∃ b o, ao = some ⟨b, o, none⟩ ∧ w'.cell? ⟨b, o + j * 3, none⟩ = some (.int .u8 (ts[j].lit : Nat)) ∧ w'.cell? ⟨b, o + j * 3 + 1, none⟩ = some (.int .i64 ts[j].len) ∧ w'.cell? ⟨b, o + j * 3 + 2, none⟩ = some (.int .i64 ts[j].dist) := by
 obtain ⟨ao', cap', e1, _, e2⟩ := h.kept tkC_ok hk (fun _ _ _ f => f)
 injection e1 with e3 _ _
 subst e3
 obtain ⟨b, o, e4, _, e5⟩ := e2 (by intro e; rw [e] at hj; simp at hj)
 have := e5 j hj
 exact ⟨b, o, e4, this 0 (by decide), this 1 (by decide), this 2 (by decide)⟩

set_option maxRecDepth 100000 in
set_option maxHeartbeats 2000000 in
theorem mmeas_any (w : World) (v : Value) (I : Nat → Prop) (ts : List TK) (most : Nat) (hs : TkSrc w I v ts) (hlen : ts.length ≤ 10000000) (hm : most ≤ 16384) :
  Calls Tryz.prog 33 #[v, .int .i64 (most : Nat)] w fun e w' => e = .returned (.tuple #[.int .i64 (okT (measT most ts 0) : Nat), .int .i64 (errT (measT most ts 0) : Nat)]) ∧ Same w w' := by
 obtain ⟨ao, cap, rfl, hx1, hx2⟩ := id hs
 clear hx1 hx2
 have HS : Hid (TkSrc w I (.slice ao ts.length cap) ts) := hs
 clear hs
 go_enter Tryz.func33, Tryz.ntmps33
 go_wp2_with fail
 go_loopg [6, 12] ts.length (fun q zc zi wr => ∃ (i c : Nat), ts.length - i ≤ q ∧ i ≤ ts.length ∧ zi = .int .i64 (i : Nat) ∧ zc = .int .i64 (c : Nat) ∧ c ≤ most ∧ Hid (measT most (ts.drop i) c = measT most ts 0) ∧ Hid (Same w wr))
 case atStart => exact ⟨0, 0, by omega, by omega, rfl, rfl, by omega, hid rfl, hid (Kept.refl _ _)⟩
 case round =>
  obtain ⟨i, c, hq, hi, rfl, rfl, hc, HM, HK⟩ := hrel
  by_cases hlt : i < ts.length
  ·obtain ⟨b, o, e1, c1, c2, c3⟩ := HS.out.at HK.out i hlt
   subst e1
   obtain ⟨t, ht⟩ : ∃ t, t = ts[i] := ⟨_, rfl⟩
   rw [← ht] at c1 c2 c3
   have HD : Hid (measT most ts 0 = measT most (t :: ts.drop (i + 1)) c) := hid (by rw [← HM.out, List.drop_eq_getElem_cons hlt, ht])
   obtain ⟨lit, len, dist⟩ := t
   clear ht HM
   have hk0 : Same wr (wr.alloc (.cells #[.int .u8 (lit : Nat), .int .i64 len, .int .i64 dist] 64)) := (Kept.refl _ wr).alloc _
   have HMY := mmay_any (wr.alloc (.cells #[.int .u8 (lit : Nat), .int .i64 len, .int .i64 dist] 64)) ⟨lit, len, dist⟩ c
   simp only [tkA] at HMY
   have HB0 : Hid (Blk (wr.alloc (.cells #[.int .u8 (lit : Nat), .int .i64 len, .int .i64 dist] 64)) wr.heap.size #[.int .u8 (lit : Nat), .int .i64 len, .int .i64 dist] 64) := hid (Blk.new wr _ _)
   have HK0 : Hid (Same w (wr.alloc (.cells #[.int .u8 (lit : Nat), .int .i64 len, .int .i64 dist] 64))) := hid (Same.trans HK.out hk0)
   clear hk0
   cases hmy : mayT ⟨lit, len, dist⟩ c with
   | false =>
    have HE : Hid (measT most ts 0 = .error 60) := hid (by rw [HD.out, measT, if_pos hmy])
    rw [hmy] at HMY
    clear hmy HD
    go_wp2_with fail
    refine HMY.mono ?_
    rintro e w1 ⟨rfl, hk1⟩
    have HK1 : Hid (Same w w1) := hid (Same.trans HK0.out hk1)
    clear hk1 HMY
    go_wp2_with fail
    go_ret2
    exact ⟨by rw [HE.out]; rfl, HK1.out⟩
   | true =>
    obtain ⟨tl, htl⟩ : ∃ n : Nat, n = tlen ⟨lit, len, dist⟩ := ⟨_, rfl⟩
    have htl2 : tl ≤ 258 ∧ 1 ≤ tl := by
     rcases mayT_cases hmy with ⟨_, _, h⟩ | ⟨n, d, _, _, _, _, _, _, _, h⟩ <;> omega
    have hmax : max len 1 = (tl : Int) := by rw [htl]; unfold tlen; simp only; omega
    have HD2 : Hid (measT most ts 0 = if most < c + tl then .error 2 else measT most (ts.drop (i + 1)) (c + tl)) := hid (by rw [HD.out, measT, if_neg (by rw [hmy]; decide), htl])
    rw [hmy] at HMY
    obtain ⟨le, hle⟩ : ∃ x : Nat, x = most - c := ⟨_, rfl⟩
    have hsub : (most : Int) - (c : Int) = (le : Int) := by omega
    clear hmy HD htl
    by_cases hbig : most < c + tl
    ·have HE : Hid (measT most ts 0 = .error 2) := hid (by rw [HD2.out, if_pos hbig])
     have hg : le < tl := by omega
     clear hbig HD2 hle
     go_wp2_with fail
     refine HMY.mono ?_
     rintro e w1 ⟨rfl, hk1⟩
     have HK1 : Hid (Same w w1) := hid (Same.trans HK0.out hk1)
     have d1 : w1.cell? ⟨wr.heap.size, 1, none⟩ = some (.int .i64 len) := (HB0.out.kept hk1 (fun f => f)).cell 1
     clear hk1 HMY c1 c2 c3
     go_wp2_with fail
     all_goals first
      | (exfalso; omega)
      | (go_ret2; exact ⟨by rw [HE.out]; rfl, HK1.out⟩)
    ·have HE : Hid (measT most (ts.drop (i + 1)) (c + tl) = measT most ts 0) := hid (by rw [HD2.out, if_neg hbig])
     have hg : ¬ le < tl := by omega
     obtain ⟨c2', hc2⟩ : ∃ x : Nat, x = c + tl := ⟨_, rfl⟩
     have hadd : (c : Int) + (tl : Int) = (c2' : Int) := by omega
     have hc2m : c2' ≤ most := by omega
     rw [← hc2] at HE
     clear hbig HD2 hle hc2
     go_wp2_with fail
     refine HMY.mono ?_
     rintro e w1 ⟨rfl, hk1⟩
     have HK1 : Hid (Same w w1) := hid (Same.trans HK0.out hk1)
     have d1 : w1.cell? ⟨wr.heap.size, 1, none⟩ = some (.int .i64 len) := (HB0.out.kept hk1 (fun f => f)).cell 1
     clear hk1 HMY c1 c2 c3
     go_wp2_with fail
     all_goals first
      | (exfalso; omega)
      | (go_roundg (gk - 1)
         case measure => omega
         case rel => exact ⟨i + 1, c2', by omega, by omega, by go_num, by congr 1; omega, hc2m, HE, HK1⟩)
  ·have hik : i = ts.length := by omega
   have HE : Hid (measT most ts 0 = .ok c) := hid (by rw [← HM.out, hik, List.drop_length]; rfl)
   clear hik
   go_wp2_with fail
   go_ret2
   exact ⟨by rw [HE.out]; rfl, HK.out⟩

set_option maxHeartbeats 1000000 in
theorem mcheck_any (w : World) (v : Value) (I : Nat → Prop) (ts : List TK) (hs : TkSrc w I v ts) (hlen : ts.length ≤ 10000000) :
  Calls Tryz.prog 35 #[v] w fun e w' => e = .returned (.int .i64 (errT (measT 16384 ts 0) : Nat)) ∧ Same w w' := by
 have HM := mmeas_any w v I ts 16384 hs hlen (Nat.le_refl _)
 clear hs
 go_enter Tryz.func35, Tryz.ntmps35
 go_wp2_with fail
 refine HM.mono ?_
 rintro e w1 ⟨rfl, hk⟩
 have HK : Hid (Same w w1) := hk
 clear hk HM
 go_wp2_with fail
 go_ret
 exact ⟨rfl, HK.out⟩

end Go.Proofs.YtggcbnhckcenmabGreatDoor

namespace Go.Proofs.YtggcbnhckcenmabGreatDoor
open Go.RowKit

set_option maxRecDepth 100000 in
set_option maxHeartbeats 2000000 in
theorem msay_any (w0 w : World) (v : Value) (out : List Nat) (t : TK) (hF : Fresh w0 w v out) (hm : mayT t out.length = true) (hl : out.length ≤ 100000) :
  Calls Tryz.prog 34 #[v, .agg (tkA t)] w fun e w' => ∃ v', e = .returned v' ∧ Fresh w0 w' v' (sayT out t) := by
 obtain ⟨ao, cap, rfl, hsh⟩ := hF.row.shape
 obtain ⟨lit, len, dist⟩ := t
 have hk0 : Same w (w.alloc (.cells #[.int .u8 (lit : Nat), .int .i64 len, .int .i64 dist] 64)) := (Kept.refl _ w).alloc _
 have HF0 : Hid (Fresh w0 (w.alloc (.cells #[.int .u8 (lit : Nat), .int .i64 len, .int .i64 dist] 64)) (.slice ao out.length cap) out) := hid (hF.later hk0 (fun _ f => f.elim))
 have HB0 : Hid (Blk (w.alloc (.cells #[.int .u8 (lit : Nat), .int .i64 len, .int .i64 dist] 64)) w.heap.size #[.int .u8 (lit : Nat), .int .i64 len, .int .i64 dist] 64) := hid (Blk.new w _ _)
 obtain ⟨L, hL⟩ : ∃ L, L = out.length := ⟨_, rfl⟩
 have HL : Hid (L = out.length) := hL
 have HNB : Hid ((Value.slice ao out.length cap).ownBlock ≠ some w.heap.size) := hid (fun e => by have := hF.row.lt e; omega)
 simp only [tkA]
 rcases mayT_cases hm with ⟨h0, h1, _⟩ | ⟨n, d, h0, h1, h2, h3, h4, h5, h6, _⟩
 ·simp only at h0 h1
  subst h0 h1
  have HLN : Hid (out.length + [lit].length ≤ 1000000000000) := hid (by simp; omega)
  rw [← hL] at HF0 ⊢
  have HSY : Hid (sayT out ⟨lit, 0, 0⟩ = out ++ [lit]) := hid (by unfold sayT; rw [if_pos rfl])
  clear hm hF hsh hk0 hL hl HNB
  go_enter Tryz.func34, Tryz.ntmps34
  go_wp2_with (at_builtin; refine wpList_append_row _ rfl (.tmp 8) (.tmp 11) rfl (.slice ao L cap) out rfl (World.ownsRow.alloc HF0.out.row _) ⟨w.heap.size + 1, 0, none⟩ 1 1 [lit] rfl rfl (by have := bytesAt_new (w.alloc (.cells #[.int .u8 (lit : Nat), .int .i64 0, .int .i64 0] 64)) lit; simpa using this) HLN.out ?_; intro v' w1 hrow hgr hv')
  have R : Hid (Fresh w0 w1 v' (out ++ [lit])) := hid (HF0.out.app hrow hgr hv')
  clear hrow hgr hv' HLN
  go_wp2_with fail
  go_ret
  exact ⟨_, rfl, by rw [HSY.out]; exact R.out⟩
 ·simp only at h0 h1 h2
  subst h0 h1 h2
  have HSY : Hid (sayT out ⟨0, (n : Int), (d : Int)⟩ = cpT d n out) := hid (by unfold sayT; rw [if_neg (by simp; omega)]; simp)
  have e0 : ((n : Int) == 0) = false := by simp; omega
  have HD : Hid (1 ≤ d ∧ d ≤ out.length) := hid ⟨h5, h6⟩
  rw [← hL] at HF0 ⊢
  have HHL : Hid (out.length ≤ 100000) := hl
  clear hm hF hsh hk0 hL hl h3 h5 h6
  go_enter Tryz.func34, Tryz.ntmps34
  go_wp2_with fail
  clear e0
  go_loopg [0, 15] n (fun q zo zi wr => ∃ (i : Nat), n - i ≤ q ∧ i ≤ n ∧ zi = .int .i64 (i : Nat) ∧ Hid (Fresh w0 wr zo (cpT d i out)) ∧ Hid (Blk wr w.heap.size #[.int .u8 0, .int .i64 (n : Nat), .int .i64 (d : Nat)] 64) ∧ Hid (zo.ownBlock ≠ some w.heap.size))
  case atStart => exact ⟨0, by omega, by omega, rfl, HF0, HB0, hid (by rw [HL.out]; exact HNB.out)⟩
  case round =>
   clear HF0 HB0 HNB
   obtain ⟨i, hq, hi, rfl, HF, HB, HNB⟩ := hrel
   by_cases hlt : i < n
   ·obtain ⟨so, scap, hso, hsh⟩ := HF.out.row.shape
    rw [cpT_length] at hso
    obtain ⟨M, hM⟩ : ∃ M, M = out.length + i := ⟨_, rfl⟩
    rw [← hM] at hso
    subst hso
    obtain ⟨g, rfl⟩ := hsh (fun e => by have h9 := congrArg List.length e; rw [cpT_length] at h9; have := HD.out; rw [List.length_nil] at h9; omega)
    obtain ⟨p, hp⟩ : ∃ p, p = M - d := ⟨_, rfl⟩
    have hMd : (M : Int) - (d : Int) = (p : Int) := by have := HD.out; omega
    have hpM : p < M := by have := HD.out; omega
    have hMb : M ≤ 100300 := by have := HHL.out; omega
    have HX : Hid (cpT d (i + 1) out = cpT d i out ++ [(cpT d i out).getD p 0]) := hid (by rw [cpT_more, cpT_length, hp, hM])
    have cp : wr.cell? ⟨g, p, none⟩ = some (.int .u8 ((cpT d i out).getD p 0 : Nat)) := by
     have hr : Row wr (.slice (some ⟨g, 0, none⟩) (cpT d i out).length scap) (cpT d i out) := by rw [cpT_length, ← hM]; exact HF.out.row
     have hpl : p < (cpT d i out).length := by rw [cpT_length]; omega
     rw [hr.cell p hpl]
     simp [List.getD, hpl]
    have d2 : wr.cell? ⟨w.heap.size, 2, none⟩ = some (.int .i64 (d : Nat)) := HB.out.cell 2
    have HLN : Hid ((cpT d i out).length + [(cpT d i out).getD p 0].length ≤ 1000000000000) := hid (by rw [cpT_length]; have := HHL.out; simp; omega)
    obtain ⟨x, hx⟩ : ∃ x, x = (cpT d i out).getD p 0 := ⟨_, rfl⟩
    rw [← hx] at cp HX HLN
    have HNB2 : Hid (g ≠ w.heap.size) := hid (fun e => HNB.out (by rw [e]; rfl))
    have HW : Hid (w.heap.size < wr.heap.size) := hid HB.out.lt
    clear hM hp hx hsh
    go_wp2_with (at_builtin; refine wpList_append_row _ rfl (.tmp 17) (.tmp 26) rfl (.slice (some ⟨g, 0, none⟩) M scap) (cpT d i out) rfl (World.ownsRow.alloc HF.out.row _) ⟨wr.heap.size, 0, none⟩ 1 1 [x] rfl rfl (bytesAt_new _ _) HLN.out ?_; intro v' w1 hrow hgr hv')
    have R : Hid (Fresh w0 w1 v' (cpT d (i + 1) out)) := hid (by rw [HX.out]; exact HF.out.app hrow hgr hv')
    have hk1 : Kept (fun j => j = g) wr w1 := ((Kept.refl (fun j => j = g) wr).alloc _).grown hgr (fun k e => .inl (by simp [Value.ownBlock] at e; exact e.symm))
    have RB : Hid (Blk w1 w.heap.size #[.int .u8 0, .int .i64 (n : Nat), .int .i64 (d : Nat)] 64) := hid (HB.out.kept hk1 (fun e => HNB2.out e.symm))
    have RN : Hid (v'.ownBlock ≠ some w.heap.size) := hid (fun e => by
     have := HW.out
     rcases hv' with e1 | e1
     ·rw [e1] at e; exact HNB2.out (by simpa [Value.ownBlock] using e)
     ·rw [e1] at e; simp at e; omega)
    clear hrow hgr hv' HLN hk1
    go_wp2_with fail
    go_roundg (gk - 1)
    case measure => omega
    case rel => exact ⟨i + 1, by omega, by omega, by go_num, R, RB, RN⟩
   ·have hin : i = n := by omega
    have HF2 : Hid (Fresh w0 wr u0 (cpT d n out)) := hid (by rw [← hin]; exact HF.out)
    clear hin
    go_wp2_with fail
    go_ret
    exact ⟨_, rfl, by rw [HSY.out]; exact HF2.out⟩

end Go.Proofs.YtggcbnhckcenmabGreatDoor

namespace Go.Proofs.YtggcbnhckcenmabGreatDoor
open Go.RowKit

def ExpA (w w' : World) (e : Ending) (ts : List TK) : Except Nat Nat → Prop
 | .error c => e = .returned (.tuple #[.slice none 0 0, .int .i64 (c : Nat)]) ∧ Same w w'
 | .ok _ => ∃ v', e = .returned (.tuple #[v', .int .i64 0]) ∧ Fresh w w' v' (expT ts [])

theorem inT_true {n lo hi : Int} (h : lo ≤ n ∧ n ≤ hi) : inT n lo hi = true := by simp [inT, h]
theorem inT_false {n lo hi : Int} (h : ¬ (lo ≤ n ∧ n ≤ hi)) : inT n lo hi = false := by
 unfold inT
 rcases Classical.not_and_iff_not_or_not.1 h with h | h
 ·simp [h]
 ·simp [h]

set_option maxHeartbeats 1000000 in
theorem mexp_bad (w : World) (v : Value) (m : Int) (hm : m < 0 ∨ 16384 < m) :
  Calls Tryz.prog 15 #[v, .int .i64 m] w fun e w' => e = .returned (.tuple #[.slice none 0 0, .int .i64 1]) ∧ Same w w' := by
 have HW := mwithin_any w m 0 16384
 rw [inT_false (by omega)] at HW
 clear hm
 go_enter Tryz.func15, Tryz.ntmps15
 go_wp2_with fail
 refine HW.mono ?_
 rintro e w1 ⟨rfl, rfl⟩
 clear HW
 go_wp2_with fail
 go_ret2
 exact ⟨rfl, Kept.refl _ _⟩

theorem expT_snoc (ts : List TK) (i : Nat) (h : i < ts.length) : expT (ts.take (i + 1)) [] = sayT (expT (ts.take i) []) ts[i] := by
 unfold expT
 rw [List.take_succ_eq_append_getElem h, List.foldl_append]
 rfl

theorem measT_may {most c n : Nat} {ts : List TK} {i : Nat} (h : i < ts.length) (hm : measT most (ts.drop i) c = .ok n) : mayT ts[i] c = true ∧ c + tlen ts[i] ≤ most ∧ measT most (ts.drop (i + 1)) (c + tlen ts[i]) = .ok n := by
 rw [List.drop_eq_getElem_cons h, measT] at hm
 split at hm
 ·cases hm
 ·rename_i h1
  split at hm
  ·cases hm
  ·exact ⟨by simpa using h1, by omega, hm⟩

set_option maxRecDepth 100000 in
set_option maxHeartbeats 2000000 in
theorem mexp_any (w : World) (v : Value) (I : Nat → Prop) (ts : List TK) (most : Nat) (hs : TkSrc w I v ts) (hlen : ts.length ≤ 10000000) (hm : most ≤ 16384) :
  Calls Tryz.prog 15 #[v, .int .i64 (most : Nat)] w fun e w' => ExpA w w' e ts (measT most ts 0) := by
 obtain ⟨ao, cap, rfl, hx1, hx2⟩ := id hs
 clear hx1 hx2
 have HS : Hid (TkSrc w I (.slice ao ts.length cap) ts) := hs
 have HW := mwithin_any w (most : Nat) 0 16384
 rw [inT_true (by omega)] at HW
 have HM := mmeas_any w _ I ts most hs hlen hm
 clear hs
 cases hr : measT most ts 0 with
 | error c =>
  have hc := measT_err hr
  rw [hr] at HM
  simp only [okT, errT] at HM
  have hcd : ((c : Int) != 0) = true := by simp; omega
  clear hr hc
  go_enter Tryz.func15, Tryz.ntmps15
  go_wp2_with fail
  refine HW.mono ?_
  rintro e w1 ⟨rfl, rfl⟩
  clear HW
  go_wp2_with fail
  refine HM.mono ?_
  rintro e w2 ⟨rfl, hk⟩
  have HK : Hid (Same w1 w2) := hk
  clear hk HM
  go_wp2_with fail
  go_ret2
  exact ⟨rfl, HK.out⟩
 | ok n =>
  have hn := measT_le hr (Nat.zero_le _)
  rw [hr] at HM
  simp only [okT, errT] at HM
  have HR : Hid (measT most ts 0 = .ok n) := hr
  clear hr
  go_enter Tryz.func15, Tryz.ntmps15
  go_wp2_with fail
  refine HW.mono ?_
  rintro e w1 ⟨rfl, rfl⟩
  clear HW
  go_wp2_with fail
  refine HM.mono ?_
  rintro e w2 ⟨rfl, hk⟩
  have HK : Hid (Same w1 w2) := hk
  clear hk HM
  have hn2 : n ≤ 16384 := by omega
  go_wp2_with (at_make; refine wpList_make_room _ rfl _ _ rfl _ _ _ _ 0 n rfl rfl rfl rfl (by omega) (by omega) ?_; intro w3 hr3 hg3 hs3)
  have HF : Hid (Fresh w1 w3 (.slice (some ⟨w2.heap.size, 0, none⟩) 0 n) []) := hid ⟨by simpa using hr3, HK.out.grown hg3 (fun k e => by cases e), fun k e => by
   have := HK.out.size
   simp [Value.ownBlock] at e
   omega⟩
  clear hr3 hg3 hs3
  go_wp2_with fail
  go_loopg [8, 27] ts.length (fun q zo zi wr => ∃ (i : Nat), ts.length - i ≤ q ∧ i ≤ ts.length ∧ zi = .int .i64 (i : Nat) ∧ Hid (Fresh w1 wr zo (expT (ts.take i) [])) ∧ Hid (measT most (ts.drop i) (expT (ts.take i) []).length = .ok n))
  case atStart => exact ⟨0, by omega, by omega, rfl, HF, hid (by simpa [expT] using HR.out)⟩
  case round =>
   clear HF HK
   obtain ⟨i, hq, hi, rfl, HF, HME⟩ := hrel
   by_cases hlt : i < ts.length
   ·obtain ⟨b, o, e1, c1, c2, c3⟩ := HS.out.at HF.out.kept i hlt
    subst e1
    obtain ⟨h1, h2, h3⟩ := measT_may hlt HME.out
    have HX : Hid (expT (ts.take (i + 1)) [] = sayT (expT (ts.take i) []) ts[i]) := hid (expT_snoc ts i hlt)
    have HME2 : Hid (measT most (ts.drop (i + 1)) (expT (ts.take (i + 1)) []).length = .ok n) := hid (by rw [HX.out, sayT_length h1]; exact h3)
    have HSY := msay_any w1 (wr.alloc (.cells #[.int .u8 (ts[i].lit : Nat), .int .i64 ts[i].len, .int .i64 ts[i].dist] 64)) u8 (expT (ts.take i) []) ts[i] (HF.out.later ((Kept.refl (fun _ => False) wr).alloc _) (fun _ f => f.elim)) h1 (by omega)
    rw [← HX.out] at HSY
    simp only [tkA] at HSY
    generalize ts[i].lit = lit at c1 HSY
    generalize ts[i].len = len at c2 HSY
    generalize ts[i].dist = dist at c3 HSY
    clear h1 h2 h3 HX
    go_wp2_with fail
    refine HSY.mono ?_
    rintro e w4 ⟨v4, rfl, hf4⟩
    have HF4 : Hid (Fresh w1 w4 v4 (expT (ts.take (i + 1)) [])) := hf4
    clear hf4 HSY c1 c2 c3
    go_wp2_with fail
    go_roundg (gk - 1)
    case measure => omega
    case rel => exact ⟨i + 1, by omega, by omega, by go_num, HF4, HME2⟩
   ·have hin : i = ts.length := by omega
    have HF2 : Hid (Fresh w1 wr u8 (expT ts [])) := hid (by have h := HF.out; rwa [hin, List.take_length] at h)
    clear hin
    go_wp2_with fail
    go_ret2
    exact ⟨_, rfl, HF2.out⟩

end Go.Proofs.YtggcbnhckcenmabGreatDoor
