/-
  Of the proof: parts ZsB, ZsD.
-/
import Derived.BigQuiet
import Derived.Test.YtljlmfnbeofmmaaGreatDoorJ47
import Derived.Test.YtljlmfnbeofmmaaGreatDoorJ43
import Derived.Test.YtljlmfnbeofmmaaGreatDoorJ46
import Derived.Test.YtljlmfnbeofmmaaGreatDoorJ24
import Derived.Test.YtljlmfnbeofmmaaGreatDoorJ6

namespace Go.Proofs.YtljlmfnbeofmmaaGreatDoor
open Go.RowKit

set_option maxRecDepth 100000 in
set_option maxHeartbeats 1000000 in
theorem rcheck8_any (w : World) (a : Option Addr) (len cap : Nat) (E : Nat → En) (hs : Ents w (fun _ => True) a len E) (hn : len ≤ 100000000) (hz : ∀ j, j < len → (E j).n.size ≤ 16777216 ∧ (E j).d.size ≤ 16777216) :
  Calls Tryz.prog 14 #[.slice a len cap] w fun e w' => e = .returned (.int .i64 (chkE E len : Nat)) ∧ Same w w' := by
 by_cases hbig : 64 < len
 ·have b1 : (64 : Int) < (len : Int) := by omega
  have HE : Hid (chkE E len = 86) := hid (by unfold chkE; rw [if_pos hbig])
  clear hs hbig hz
  go_enter Tryz.func14, Tryz.ntmps14
  go_wp2_with fail
  go_ret
  exact ⟨by rw [HE.out]; rfl, Kept.refl _ _⟩
 ·have b1 : (len : Int) ≤ 64 := by omega
  have HE : Hid (chkE E len = wrAll E (len - 0) 0) := hid (by unfold chkE; rw [if_neg hbig]; rfl)
  have HS : Hid (Ents w (fun _ => True) a len E) := hs
  have HZ : Hid (∀ j, j < len → (E j).n.size ≤ 16777216 ∧ (E j).d.size ≤ 16777216) := hz
  clear hs hbig hz
  go_enter Tryz.func14, Tryz.ntmps14
  go_wp2_with fail
  go_loopg [3] len (fun k z wr => ∃ i : Nat, len - i ≤ k ∧ i ≤ len ∧ z = .int .i64 (i : Nat) ∧ Hid (chkE E len = wrAll E (len - i) i) ∧ Hid (Same w wr))
  case atStart => exact ⟨0, by omega, by omega, rfl, HE, hid (Kept.refl _ _)⟩
  case round =>
   obtain ⟨i, hk, hil, rfl, HF, HK⟩ := hrel
   by_cases hlt : i < len
   ·have hli : decide (i < len) = true := by simp; omega
    obtain ⟨b, o, ha, _, hc0, hc1⟩ := HS.out i hlt
    subst ha
    have HC0 : Hid (w.cell? ⟨b, o + i * 2, none⟩ = some (.string (E i).n) ∧ w.cell? ⟨b, o + i * 2 + 1, none⟩ = some (.string (E i).d)) := hid ⟨hc0, hc1⟩
    have hc0 := HK.out.cell hc0 (fun f => f)
    have hc1 := HK.out.cell hc1 (fun f => f)
    obtain ⟨y, hy⟩ : ∃ y, y = E i := ⟨_, rfl⟩
    rw [← hy] at hc0 hc1 HC0
    have HY : Hid (y = E i) := hy
    have hzy := HZ.out i hlt
    rw [← hy] at hzy
    have hiw : IntKind.i64.wrap ((i : Int) + 1) = ((i + 1 : Nat) : Int) := by rw [IntKind.wrap_i64]; omega
    have i1 : (0 : Int) ≤ (i : Int) := by omega
    have i2 : (i : Int) < (len : Int) := by omega
    have HNM := rname_any wr y.n (by omega)
    clear hy
    cases hnb : nam8 (sb y.n) with
    | false =>
     rw [hnb] at HNM
     have HR : Hid (chkE E len = 80) := hid (by rw [HF.out, wrAll_bad E len i hlt (by unfold wrE; rw [if_pos (.inl (by rw [← HY.out]; exact hnb))]; decide)]; unfold wrE; rw [if_pos (.inl (by rw [← HY.out]; exact hnb))])
     clear hnb
     go_wp2_with fail
     refine HNM.mono ?_
     rintro e w2 ⟨rfl, hw2⟩
     subst hw2
     clear HNM
     go_wp2_with fail
     go_ret
     exact ⟨by rw [HR.out]; rfl, HK.out⟩
    | true =>
     rw [hnb] at HNM
     have HNB : Hid (nam8 (sb (E i).n) = true) := hid (by rw [← HY.out]; exact hnb)
     clear hnb
     go_wp2_with fail
     refine HNM.mono ?_
     rintro e w2 ⟨rfl, hw2⟩
     subst hw2
     clear HNM
     go_wp2_with fail
     obtain ⟨gk0, hgk0⟩ : ∃ g, g = gk := ⟨_, rfl⟩
     have HGK : Hid (len - i ≤ gk0) := hid (by omega)
     go_loopg [4] i (fun k z wr => ∃ j : Nat, i - j ≤ k ∧ j ≤ i ∧ z = .int .i64 (j : Nat) ∧ Hid (anyN E y.n j = false) ∧ Hid (Same w wr))
     case atStart => exact ⟨0, by omega, by omega, rfl, hid rfl, HK⟩
     case round =>
      obtain ⟨j, hk2, hjl, rfl, HN, HK2⟩ := hrel
      by_cases hjt : j < i
      ·have hlj : decide (j < i) = true := by simp; omega
       obtain ⟨b', o', ha', _, hd0, _⟩ := HS.out j (by omega)
       simp only [Option.some.injEq, Addr.mk.injEq, and_true] at ha'
       obtain ⟨rfl, rfl⟩ := ha'
       have hd0 := HK2.out.cell hd0 (fun f => f)
       have hc0 := HK2.out.cell HC0.out.1 (fun f => f)
       obtain ⟨z, hz⟩ : ∃ z, z = E j := ⟨_, rfl⟩
       rw [← hz] at hd0
       have HZJ : Hid (z = E j) := hz
       have hjw : IntKind.i64.wrap ((j : Int) + 1) = ((j + 1 : Nat) : Int) := by rw [IntKind.wrap_i64]; omega
       have j1 : (0 : Int) ≤ (j : Int) := by omega
       have j2 : (j : Int) < (len : Int) := by omega
       have hq := str_beq z.n y.n
       clear hz
       cases hb : decide (z.n = y.n) with
       | true =>
        rw [hb] at hq
        have HR : Hid (chkE E len = 80) := hid (by
         have h9 : anyN E (E i).n i = true := anyN_at hjt (by rw [← HZJ.out, ← HY.out]; exact of_decide_eq_true hb)
         rw [HF.out, wrAll_bad E len i hlt (by unfold wrE; rw [if_pos (.inr h9)]; decide)]; unfold wrE; rw [if_pos (.inr h9)])
        clear hb
        go_wp2_with fail
        go_quiet (fail)
        go_wp2_with fail
        go_ret
        exact ⟨by rw [HR.out]; rfl, HK2.out.drewN _⟩
       | false =>
        rw [hb] at hq
        have HB : Hid (decide (z.n = y.n) = false) := hb
        clear hb
        go_wp2_with fail
        go_quiet (fail)
        go_wp2_with fail
        go_roundg (gk - 1)
        case measure => omega
        case rel => exact ⟨j + 1, by omega, by omega, by go_num, hid (by unfold anyN; rw [HN.out, ← HZJ.out, HB.out]; rfl), hid (HK2.out.drewN _)⟩
      ·have hlj : decide (j < i) = false := by simp; omega
       obtain rfl : j = i := by omega
       have hc1 := HK2.out.cell HC0.out.2 (fun f => f)
       obtain ⟨sz, hsz⟩ : ∃ s, s = y.d.size := ⟨_, rfl⟩
       have hszI : (y.d.size : Int) = (sz : Int) := by rw [hsz]
       have HSZ : Hid (sz = y.d.size) := hsz
       clear hsz
       by_cases hd : 8192 < sz
       ·have bd : decide ((8192 : Int) < (sz : Int)) = true := by simp; omega
        have bd' : decide (8192 < sz) = true := by simp; omega
        have HR : Hid (chkE E len = 87) := hid (by
         have h9 : wrE E j = 87 := by unfold wrE; rw [if_neg (by rw [HNB.out, ← HY.out, HN.out]; simp), if_pos (by rw [← HY.out, ← HSZ.out]; exact hd)]
         rw [HF.out, wrAll_bad E len j hlt (by rw [h9]; decide), h9])
        clear hd
        go_wp2_with fail
        go_ret
        exact ⟨by rw [HR.out]; rfl, HK2.out⟩
       ·have bd : decide ((8192 : Int) < (sz : Int)) = false := by simp; omega
        have bd' : decide (8192 < sz) = false := by simp; omega
        have HR : Hid (chkE E len = wrAll E (len - (j + 1)) (j + 1)) := hid (by
         have h9 : wrE E j = 0 := by unfold wrE; rw [if_neg (by rw [HNB.out, ← HY.out, HN.out]; simp), if_neg (by rw [← HY.out, ← HSZ.out]; exact hd)]
         rw [HF.out, wrAll_step E len j hlt h9])
        clear hd
        go_wp2_with fail
        go_roundg (gk0 - 1)
        case measure => have := HGK.out; omega
        case rel => exact ⟨j + 1, by have := HGK.out; omega, by omega, by go_num, HR, HK2⟩
   ·have hli : decide (i < len) = false := by simp; omega
    obtain rfl : i = len := by omega
    have HR : Hid (chkE E i = 0) := hid (by rw [HF.out, Nat.sub_self]; rfl)
    go_wp2_with fail
    go_ret
    exact ⟨by rw [HR.out]; rfl, HK.out⟩

end Go.Proofs.YtljlmfnbeofmmaaGreatDoor

namespace Go.Proofs.YtljlmfnbeofmmaaGreatDoor
open Go.RowKit

def itsL (E : Nat → En) (B : Nat → List Nat) (n : Nat) : List It := (List.range n).map (fun j => ⟨labZ (E j) (B j), bodZ (E j) (B j)⟩)

theorem itsL_succ (E : Nat → En) (B : Nat → List Nat) (n : Nat) : itsL E B (n + 1) = itsL E B n ++ [⟨labZ (E n) (B n), bodZ (E n) (B n)⟩] := by
 unfold itsL
 rw [List.range_succ, List.map_append]
 rfl

def Pks (w : World) (a : Option Addr) (len : Nat) (B : Nat → List Nat) : Prop :=
 ∀ j, j < len → ∃ b o, a = some ⟨b, o, none⟩ ∧ ∃ av cv, ∃ J : Nat → Prop, w.cell? ⟨b, o + j, none⟩ = some (.slice av (B j).length cv) ∧ Src w J (.slice av (B j).length cv) (B j) ∧ ∀ n c, Value.slice av (B j).length cv = .slice none n c → n = 0 ∧ c = 0

theorem wpList_append_fresh {ops : Array Oper} {rest : List Oper} {o : Oper} {a : Act} {Q : Exit → Act → World → Prop} (w : World) (hgd : o.guard = none) (s x : Operand)
  (ho : o.op = .call { callee := .builtin .append, args := #[s, x], argTypes := #[26, 26] })
  (w0 : World) (v : Value) (bs : List Nat) (hs : a.eval s = v) (hf : Fresh w0 w v bs) (I : Nat → Prop) (xv : Value) (cs : List Nat) (hx : a.eval x = xv) (hnil : ∀ n c, xv = .slice none n c → n = 0 ∧ c = 0) (hsrc : Src w I xv cs) (hlen : bs.length + cs.length ≤ 1000000000000)
  (h : ∀ v' w', Fresh w0 w' v' (bs ++ cs) → wpList Tryz.prog ops Q rest (a.put o.dst v') w') : wpList Tryz.prog ops Q (o :: rest) a w := by
 refine wpList_append_any w hgd s x ho v bs hs hf.row I xv cs hx hnil hsrc hlen ?_
 intro v' w' hr hg ho'
 refine h v' w' ⟨hr, hf.kept.grown hg (fun k e => .inr (hf.new k e)), fun k e => ?_⟩
 rcases ho' with h1 | h1
 ·exact hf.new k (by rw [← h1]; exact e)
 ·rw [h1] at e
  simp only [Option.some.injEq] at e
  have := hf.kept.size
  omega

def fE (p : Nat × Nat) : List Value := [.int .i64 (p.1 : Nat), .int .i64 (p.2 : Nat)]

theorem fE_at (fs : List (Nat × Nat)) (k : Nat) (p : Nat × Nat) (h : fs[k]? = some p) : (fs.flatMap fE)[2 * k]? = some (.int .i64 (p.1 : Nat)) ∧ (fs.flatMap fE)[2 * k + 1]? = some (.int .i64 (p.2 : Nat)) := by
 induction fs generalizing k with
 | nil => simp at h
 | cons q r ih =>
  cases k with
  | zero =>
   simp only [List.getElem?_cons_zero, Option.some.injEq] at h
   subst h
   simp [fE]
  | succ k =>
   have h2 := ih k (by simpa using h)
   rw [List.flatMap_cons, show 2 * (k + 1) = 2 * k + 2 by omega, show 2 * k + 2 + 1 = (2 * k + 1) + 2 by omega]
   simpa [fE] using h2

theorem flds_new (w : World) (fs : List (Nat × Nat)) (cs : Array Value) (h : cs = (fs.flatMap fE).toArray) : Flds (w.alloc (.cells cs 3)) w.heap.size fs := by
 intro k p hp
 obtain ⟨h1, h2⟩ := fE_at fs k p hp
 have hb := Blk.new w cs 3
 rw [hb.cell, hb.cell, h]
 exact ⟨by simpa using h1, by simpa using h2⟩

def hedF (m : Mk) : List (Nat × Nat) := [(67324752, 4), (20, 2), (0, 2), (m.way, 2), (0, 2), (33, 2), (m.sum, 4), (m.packed, 4), (m.size, 4), (m.name.length, 2), (0, 2)]
def recF (m : Mk) (p : Nat) : List (Nat × Nat) := [(33639248, 4), (20, 2), (20, 2), (0, 2), (m.way, 2), (0, 2), (33, 2), (m.sum, 4), (m.packed, 4), (m.size, 4), (m.name.length, 2), (0, 2), (0, 2), (0, 2), (0, 2), (0, 4), (p, 4)]
def endF (n l f : Nat) : List (Nat × Nat) := [(101010256, 4), (0, 2), (0, 2), (n, 2), (n, 2), (l, 4), (f, 4), (0, 2)]

theorem hedF_is (m : Mk) : laidL (hedF m) ++ m.name = hedB m := by simp [laidL, hedF, hedB, labB, List.append_assoc]
theorem recF_is (m : Mk) (p : Nat) : laidL (recF m p) ++ m.name = recB m p := by simp [laidL, recF, recB, labB, List.append_assoc]
theorem endF_is (n l f : Nat) : laidL (endF n l f) = endB n l f := by simp [laidL, endF, endB]

theorem itsL_lens {E : Nat → En} {B : Nat → List Nat} (i : Nat) (h : ∀ j, j < i → nam8 (sb (E j).n) = true ∧ (E j).d.size ≤ 8192) : (piesB (itsL E B i)).length ≤ i * 8400 ∧ (recsB 0 (itsL E B i)).length ≤ i * 120 := by
 induction i with
 | zero => simp [itsL, piesB, recsB]
 | succ i ih =>
  obtain ⟨h1, h2⟩ := ih (fun j hj => h j (by omega))
  have h3 := h i (by omega)
  obtain ⟨_, _, h4, h5⟩ := labZ_ok (E i) (B i) h3.1 h3.2
  rw [itsL_succ, piesB_app, recsB_app, List.length_append, List.length_append, pieB_len, recB_len]
  constructor
  ·show _ + (30 + (labZ (E i) (B i)).name.length + (bodZ (E i) (B i)).length) ≤ _
   omega
  ·show _ + (46 + (labZ (E i) (B i)).name.length) ≤ _
   omega

set_option maxRecDepth 100000 in
set_option maxHeartbeats 1000000 in
theorem rfile_any (w : World) (a : Option Addr) (len cap : Nat) (E : Nat → En) (pa : Option Addr) (pc : Nat) (B : Nat → List Nat) (hs : Ents w (fun _ => True) a len E) (hp : Pks w pa len B) (hn : len ≤ 64) (hok : ∀ j, j < len → nam8 (sb (E j).n) = true ∧ (E j).d.size ≤ 8192) :
  Calls Tryz.prog 17 #[.slice a len cap, .slice pa len pc] w fun e w' => ∃ v', e = .returned v' ∧ Fresh w w' v' (filB (itsL E B len)) := by
 have HS : Hid (Ents w (fun _ => True) a len E) := hs
 have HP : Hid (Pks w pa len B) := hp
 have HOK : Hid (∀ j, j < len → nam8 (sb (E j).n) = true ∧ (E j).d.size ≤ 8192) := hok
 clear hs hp hok
 go_enter Tryz.func17, Tryz.ntmps17
 go_wp2_with fail
 go_loopg [5, 6, 7] len (fun qq z5 z6 z7 wr => ∃ i : Nat, z7 = .int .i64 (i : Nat) ∧ i ≤ len ∧ len - i ≤ qq ∧ Hid (Fresh w wr z5 (piesB (itsL E B i)) ∧ Fresh w wr z6 (recsB 0 (itsL E B i))))
 case atStart => exact ⟨0, rfl, by omega, by omega, hid ⟨⟨World.ownsRow_nil _ 0 5 1, Kept.refl _ _, fun k e => (by cases e)⟩, ⟨World.ownsRow_nil _ 0 5 1, Kept.refl _ _, fun k e => (by cases e)⟩⟩⟩
 case round =>
  obtain ⟨i, rfl, hi1, hiq, HI⟩ := hrel
  obtain ⟨vp, hvp⟩ : ∃ v, v = u5 := ⟨_, rfl⟩
  obtain ⟨vr, hvr⟩ : ∃ v, v = u6 := ⟨_, rfl⟩
  rw [← hvp, ← hvr] at HI
  rw [← hvp, ← hvr]
  clear hvp hvr
  obtain ⟨np, hnp⟩ : ∃ n, n = (piesB (itsL E B i)).length := ⟨_, rfl⟩
  obtain ⟨nr, hnr⟩ : ∃ n, n = (recsB 0 (itsL E B i)).length := ⟨_, rfl⟩
  obtain ⟨ap, cp, hvp, _⟩ := HI.out.1.row.shape
  obtain ⟨ar, cr, hvr, _⟩ := HI.out.2.row.shape
  rw [← hnp] at hvp
  rw [← hnr] at hvr
  subst hvp
  subst hvr
  have HNN : Hid (np = (piesB (itsL E B i)).length ∧ nr = (recsB 0 (itsL E B i)).length) := hid ⟨hnp, hnr⟩
  have hlens := itsL_lens (E := E) (B := B) i (fun j hj => HOK.out j (by omega))
  rw [← hnp, ← hnr] at hlens
  have hnpb : np ≤ 600000 := by omega
  have hnrb : nr ≤ 8000 := by omega
  clear hnp hnr hlens
  have HSW : Hid (Same w wr) := hid HI.out.1.kept
  by_cases hi : i < len
  ·have hli : decide (i < len) = true := by simp; omega
   obtain ⟨b, o, ha, _, k0, k1⟩ := HS.out i hi
   subst ha
   obtain ⟨pb, po, hpa, av, cv, J, p0, ps, pnil⟩ := HP.out i hi
   subst hpa
   obtain ⟨y, hy⟩ : ∃ y, y = E i := ⟨_, rfl⟩
   obtain ⟨bs, hbs⟩ : ∃ y, y = B i := ⟨_, rfl⟩
   rw [← hy] at k0 k1
   rw [← hbs] at p0 ps pnil
   have hyo := HOK.out i hi
   rw [← hy] at hyo
   obtain ⟨lb, hlb⟩ : ∃ n, n = bs.length := ⟨_, rfl⟩
   rw [← hlb] at p0 ps pnil
   obtain ⟨sz, hsz⟩ : ∃ n, n = y.d.size := ⟨_, rfl⟩
   obtain ⟨sn, hsn⟩ : ∃ n, n = y.n.size := ⟨_, rfl⟩
   have hszI : (y.d.size : Int) = (sz : Int) := by rw [hsz]
   have hsnI : (y.n.size : Int) = (sn : Int) := by rw [hsn]
   obtain ⟨m, hm⟩ : ∃ m, m = labZ y bs := ⟨_, rfl⟩
   obtain ⟨bd, hbd⟩ : ∃ d, d = bodZ y bs := ⟨_, rfl⟩
   have hlz := labZ_ok y bs hyo.1 hyo.2
   rw [← hm, ← hbd] at hlz
   have HX : Hid (y = E i ∧ bs = B i ∧ m = labZ y bs ∧ bd = bodZ y bs ∧ lb = bs.length ∧ sz = y.d.size ∧ sn = y.n.size) := hid ⟨hy, hbs, hm, hbd, hlb, hsz, hsn⟩
   have HLZ : Hid (MkOk m ∧ (∀ b ∈ m.name, b < 256) ∧ m.name.length ≤ 64 ∧ bd.length ≤ 8192) := hlz
   have HCL : Hid (w.cell? ⟨b, o + i * 2, none⟩ = some (.string y.n) ∧ w.cell? ⟨b, o + i * 2 + 1, none⟩ = some (.string y.d) ∧ w.cell? ⟨pb, po + i, none⟩ = some (.slice av lb cv) ∧ Src w J (.slice av lb cv) bs ∧ ∀ n c, Value.slice av lb cv = .slice none n c → n = 0 ∧ c = 0) := hid ⟨k0, k1, p0, ps, pnil⟩
   have i1 : (0 : Int) ≤ (i : Int) := by omega
   have i2 : (i : Int) < (len : Int) := by omega
   have hiw : IntKind.i64.wrap ((i : Int) + 1) = ((i + 1 : Nat) : Int) := by rw [IntKind.wrap_i64]; omega
   have k1 := HSW.out.cell k1 (fun f => f)
   obtain ⟨G, W1, hcv0, hk1, hs1, hz1⟩ := bytes8 wr y.d
   rw [← hsz] at hcv0 hs1
   have HK1 : Hid (Same wr W1) := hk1
   have HS1 : Hid (Src W1 (fun k => k = wr.heap.size) (.slice (some ⟨wr.heap.size, 0, none⟩) sz G) (sb y.d)) := hs1
   have HSM := rsum_any W1 _ _ (sb y.d) hs1 (sb_lt _) (by rw [sb_size, ← hsz]; omega)
   have p0 := HK1.out.cell (HSW.out.cell p0 (fun f => f)) (fun f => f)
   have k0 := HK1.out.cell (HSW.out.cell k0 (fun f => f)) (fun f => f)
   have hsum : m.sum = more 0 (sb y.d) := by rw [hm]; rfl
   rw [← hsum] at HSM
   have hsmw : IntKind.i64.wrap (m.sum : Int) = (m.sum : Int) := by rw [IntKind.wrap_i64]; have := hlz.1.sum; omega
   have hyn : y.n = txt m.name := by rw [hm]; exact (txt_sb y.n).symm
   have hmn : m.name.length = sn := by rw [hm, hsn]; exact sb_size y.n
   have hmz : m.size = sz := by rw [hm, hsz]; rfl
   have hmp : m.packed = bd.length := by rw [hm, hbd]; rfl
   have hbody : (lb < sz ∧ m.way = 8 ∧ bd = bs) ∨ (¬ lb < sz ∧ m.way = 0 ∧ bd = sb y.d) := by
    rw [hm, hbd, hlb, hsz]
    unfold labZ bodZ
    by_cases h : bs.length < y.d.size
    ·left; simp [h]
    ·right; simp [h]
   have HMM : Hid (m.sum = more 0 (sb y.d) ∧ m.name.length = sn ∧ m.size = sz ∧ m.packed = bd.length) := hid ⟨hsum, hmn, hmz, hmp⟩
   clear hs1 hz1 hk1 hsum hmn hmz hmp hm hbd hlb hsz hsn hy hbs ps pnil hyo hlz
   rcases hbody with ⟨hc1, hw8, hb8⟩ | ⟨hc1, hw8, hb8⟩
   ·have c1 : decide ((lb : Int) < (sz : Int)) = true := by simp; omega
    have c1' : decide (lb < sz) = true := by simp; omega
    have HWY : Hid (m.way = 8) := hw8
    have HBD : Hid (Src W1 J (.slice av lb cv) bd ∧ (∀ n c, (.slice av lb cv) = Value.slice none n c → n = 0 ∧ c = 0) ∧ lb = bd.length) := hid (⟨by rw [hb8]; exact (HCL.out.2.2.2.1.kept (Same.trans HSW.out HK1.out) (fun _ _ _ f => f)), HCL.out.2.2.2.2, by rw [hb8]; exact HX.out.2.2.2.2.1⟩)
    clear hc1 hw8 hb8
    rw [hyn] at k0 hsnI
    go_wp2_with fail
    refine HSM.mono ?_
    rintro e w2 ⟨rfl, hw2⟩
    subst hw2
    clear HSM
    obtain ⟨W2, hW2⟩ : ∃ W, W = w2.alloc (.cells #[.int .i64 67324752, .int .i64 4, .int .i64 20, .int .i64 2, .int .i64 0, .int .i64 2, .int .i64 8, .int .i64 2, .int .i64 0, .int .i64 2, .int .i64 33, .int .i64 2, .int .i64 (m.sum : Nat), .int .i64 4, .int .i64 (lb : Nat), .int .i64 4, .int .i64 (sz : Nat), .int .i64 4, .int .i64 (sn : Nat), .int .i64 2, .int .i64 0, .int .i64 2] 3) := ⟨_, rfl⟩
    have HKW2 : Hid (Same w2 W2) := hid (by rw [hW2]; exact (Kept.refl _ w2).alloc _)
    have HRW : Hid (Same wr W2) := hid (Same.trans HK1.out HKW2.out)
    have HLD : Calls Tryz.prog 48 #[.slice ap np cp, .slice (some ⟨w2.heap.size, 0, none⟩) 22 22] W2 fun e w' => ∃ v', e = .returned v' ∧ Fresh W2 w' v' (piesB (itsL E B i) ++ laidL (hedF m)) :=
     rlaid_any W2 (.slice ap np cp) _ (piesB (itsL E B i)) w2.heap.size (hedF m) 11 rfl (Src.ofRow (HI.out.1.row.kept HRW.out (fun _ _ f => f))) (by rw [hW2]; exact flds_new w2 (hedF m) _ (by simp [hedF, fE, HWY.out, HMM.out.2.1, HMM.out.2.2.1, HMM.out.2.2.2, ← HBD.out.2.2])) (by have h1 := HLZ.out.1; intro q hq; simp only [hedF, List.mem_cons, List.not_mem_nil, or_false] at hq; have := h1.way; have := h1.sum; have := h1.packed; have := h1.size; have := h1.name; rcases hq with rfl | rfl | rfl | rfl | rfl | rfl | rfl | rfl | rfl | rfl | rfl <;> simp only <;> omega) (by decide) (by decide) (by have := HNN.out; omega) ⟨_, _, _, rfl⟩
    go_wp2_with fail
    rw [← hW2]
    clear hW2
    refine HLD.mono ?_
    rintro e w3 ⟨v3, rfl, hf3⟩
    have HF3 : Hid (Fresh W2 w3 v3 (piesB (itsL E B i) ++ laidL (hedF m))) := hf3
    have HL3 : Hid ((piesB (itsL E B i) ++ laidL (hedF m)).length ≤ 600100) := hid (by rw [List.length_append]; have h9 := laidL_len (hedF m) (by intro q hq; simp only [hedF, List.mem_cons, List.not_mem_nil, or_false] at hq; rcases hq with rfl | rfl | rfl | rfl | rfl | rfl | rfl | rfl | rfl | rfl | rfl <;> simp only <;> omega) 11; rw [List.take_of_length_le (by simp [hedF])] at h9; have := HNN.out; omega)
    have k0 := (Same.trans HKW2.out hf3.kept).cell k0 (fun f => f)
    have HBS : Hid (∀ wx, Same w2 wx → Src wx J (.slice av lb cv) bd) := hid (fun wx hk => HBD.out.1.kept hk (fun _ _ _ f => f))
    have HCZ : Hid (w.cell? ⟨b, o + i * 2, none⟩ = some (.string (txt m.name))) := hid (by rw [← hyn]; exact HCL.out.1)
    clear hf3 HLD
    go_wp2_with (first | (at_builtin; refine wpList_append_str _ rfl (.tmp 61) (.tmp 66) rfl W2 _ _ rfl HF3.out m.name rfl HLZ.out.2.1 (by have := HL3.out; have := HLZ.out.2.2.1; omega) ?_; intro v4 w4 hf4; have HF4 : Hid (Fresh W2 w4 v4 (piesB (itsL E B i) ++ laidL (hedF m) ++ m.name)) := hf4; clear hf4) | (at_builtin; refine wpList_append_fresh _ rfl (.tmp 68) (.tmp 69) rfl W2 _ _ rfl HF4.out _ _ bd rfl HBD.out.2.1 (HBS.out _ (Same.trans HKW2.out HF4.out.kept)) (by rw [List.length_append]; have := HL3.out; have := HLZ.out.2.2; omega) ?_; intro v5 w5 hf5; have HF5 : Hid (Fresh W2 w5 v5 (piesB (itsL E B (i + 1)))) := hid (by rw [itsL_succ, piesB_app, ← HX.out.1, ← HX.out.2.1, ← HX.out.2.2.1, ← HX.out.2.2.2.1]; unfold pieB; rw [show (It.mk m bd).lab = m from rfl, show (It.mk m bd).bytes = bd from rfl, ← hedF_is]; simpa only [List.append_assoc] using hf5); have HW5 : Hid (Same wr w5) := hid (Same.trans HRW.out hf5.kept); have k05 := (Same.trans HSW.out HW5.out).cell HCZ.out (fun f => f); clear hf5 k0))
    obtain ⟨W6, hW6⟩ : ∃ W, W = w5.alloc (.cells #[.int .i64 33639248, .int .i64 4, .int .i64 20, .int .i64 2, .int .i64 20, .int .i64 2, .int .i64 0, .int .i64 2, .int .i64 8, .int .i64 2, .int .i64 0, .int .i64 2, .int .i64 33, .int .i64 2, .int .i64 (m.sum : Nat), .int .i64 4, .int .i64 (lb : Nat), .int .i64 4, .int .i64 (sz : Nat), .int .i64 4, .int .i64 (sn : Nat), .int .i64 2, .int .i64 0, .int .i64 2, .int .i64 0, .int .i64 2, .int .i64 0, .int .i64 2, .int .i64 0, .int .i64 2, .int .i64 0, .int .i64 4, .int .i64 (np : Nat), .int .i64 4] 3) := ⟨_, rfl⟩
    have HKW6 : Hid (Same w5 W6) := hid (by rw [hW6]; exact (Kept.refl _ w5).alloc _)
    have HRW6 : Hid (Same wr W6) := hid (Same.trans HW5.out HKW6.out)
    have HLD : Calls Tryz.prog 48 #[.slice ar nr cr, .slice (some ⟨w5.heap.size, 0, none⟩) 34 34] W6 fun e w' => ∃ v', e = .returned v' ∧ Fresh W6 w' v' (recsB 0 (itsL E B i) ++ laidL (recF m np)) :=
     rlaid_any W6 (.slice ar nr cr) _ (recsB 0 (itsL E B i)) w5.heap.size (recF m np) 17 rfl (Src.ofRow (HI.out.2.row.kept HRW6.out (fun _ _ f => f))) (by rw [hW6]; exact flds_new w5 (recF m np) _ (by simp [recF, fE, HWY.out, HMM.out.2.1, HMM.out.2.2.1, HMM.out.2.2.2, ← HBD.out.2.2])) (by have h1 := HLZ.out.1; intro q hq; simp only [recF, List.mem_cons, List.not_mem_nil, or_false] at hq; have := h1.way; have := h1.sum; have := h1.packed; have := h1.size; have := h1.name; rcases hq with rfl | rfl | rfl | rfl | rfl | rfl | rfl | rfl | rfl | rfl | rfl | rfl | rfl | rfl | rfl | rfl | rfl <;> simp only <;> omega) (by decide) (by decide) (by have := HNN.out; omega) ⟨_, _, _, rfl⟩
    go_wp2_with fail
    rw [← hW6]
    clear hW6
    refine HLD.mono ?_
    rintro e w7 ⟨v7, rfl, hf7⟩
    have HF7 : Hid (Fresh W6 w7 v7 (recsB 0 (itsL E B i) ++ laidL (recF m np))) := hf7
    have HL7 : Hid ((recsB 0 (itsL E B i) ++ laidL (recF m np)).length ≤ 8200) := hid (by rw [List.length_append]; have h9 := laidL_len (recF m np) (by intro q hq; simp only [recF, List.mem_cons, List.not_mem_nil, or_false] at hq; rcases hq with rfl | rfl | rfl | rfl | rfl | rfl | rfl | rfl | rfl | rfl | rfl | rfl | rfl | rfl | rfl | rfl | rfl <;> simp only <;> omega) 17; rw [List.take_of_length_le (by simp [recF])] at h9; have := HNN.out; omega)
    have k07 := (Same.trans HKW6.out hf7.kept).cell k05 (fun f => f)
    clear hf7 HLD k05
    go_wp2_with (at_builtin; refine wpList_append_str _ rfl (.tmp 87) (.tmp 92) rfl W6 _ _ rfl HF7.out m.name rfl HLZ.out.2.1 (by have := HL7.out; have := HLZ.out.2.2.1; omega) ?_; intro v8 w8 hf8)
    have HN : Hid (Fresh w w8 v5 (piesB (itsL E B (i + 1))) ∧ Fresh w w8 v8 (recsB 0 (itsL E B (i + 1)))) := hid (by
     have h68 : Same w5 w8 := Same.trans HKW6.out hf8.kept
     have hww : Same w W2 := Same.trans HSW.out HRW.out
     refine ⟨⟨HF5.out.row.kept h68 (fun _ _ f => f), Same.trans (Same.trans hww HF5.out.kept) h68, fun k e => Nat.le_trans hww.size (HF5.out.new k e)⟩, ?_⟩
     refine Fresh.base8 (Same.trans HSW.out HRW6.out) ?_
     rw [itsL_succ, recsB_app, Nat.zero_add, ← HNN.out.1, ← HX.out.1, ← HX.out.2.1, ← HX.out.2.2.1, ← recF_is, ← List.append_assoc]
     exact hf8)
    clear hf8
    go_wp2_with fail
    go_roundg (gk - 1)
    case measure => omega
    case rel => exact ⟨i + 1, by go_num, by omega, by omega, HN⟩
   ·have c1 : decide ((lb : Int) < (sz : Int)) = false := by simp; omega
    have c1' : decide (lb < sz) = false := by simp; omega
    have HWY : Hid (m.way = 0) := hw8
    have HBD : Hid (Src W1 (fun k => k = wr.heap.size) (.slice (some ⟨wr.heap.size, 0, none⟩) sz G) bd ∧ (∀ n c, (.slice (some ⟨wr.heap.size, 0, none⟩) sz G) = Value.slice none n c → n = 0 ∧ c = 0) ∧ sz = bd.length) := hid (⟨by rw [hb8]; exact HS1.out, fun n c e => (by cases e), by rw [hb8, sb_size]; exact HX.out.2.2.2.2.2.1⟩)
    clear hc1 hw8 hb8
    rw [hyn] at k0 hsnI
    go_wp2_with fail
    refine HSM.mono ?_
    rintro e w2 ⟨rfl, hw2⟩
    subst hw2
    clear HSM
    obtain ⟨W2, hW2⟩ : ∃ W, W = w2.alloc (.cells #[.int .i64 67324752, .int .i64 4, .int .i64 20, .int .i64 2, .int .i64 0, .int .i64 2, .int .i64 0, .int .i64 2, .int .i64 0, .int .i64 2, .int .i64 33, .int .i64 2, .int .i64 (m.sum : Nat), .int .i64 4, .int .i64 (sz : Nat), .int .i64 4, .int .i64 (sz : Nat), .int .i64 4, .int .i64 (sn : Nat), .int .i64 2, .int .i64 0, .int .i64 2] 3) := ⟨_, rfl⟩
    have HKW2 : Hid (Same w2 W2) := hid (by rw [hW2]; exact (Kept.refl _ w2).alloc _)
    have HRW : Hid (Same wr W2) := hid (Same.trans HK1.out HKW2.out)
    have HLD : Calls Tryz.prog 48 #[.slice ap np cp, .slice (some ⟨w2.heap.size, 0, none⟩) 22 22] W2 fun e w' => ∃ v', e = .returned v' ∧ Fresh W2 w' v' (piesB (itsL E B i) ++ laidL (hedF m)) :=
     rlaid_any W2 (.slice ap np cp) _ (piesB (itsL E B i)) w2.heap.size (hedF m) 11 rfl (Src.ofRow (HI.out.1.row.kept HRW.out (fun _ _ f => f))) (by rw [hW2]; exact flds_new w2 (hedF m) _ (by simp [hedF, fE, HWY.out, HMM.out.2.1, HMM.out.2.2.1, HMM.out.2.2.2, ← HBD.out.2.2])) (by have h1 := HLZ.out.1; intro q hq; simp only [hedF, List.mem_cons, List.not_mem_nil, or_false] at hq; have := h1.way; have := h1.sum; have := h1.packed; have := h1.size; have := h1.name; rcases hq with rfl | rfl | rfl | rfl | rfl | rfl | rfl | rfl | rfl | rfl | rfl <;> simp only <;> omega) (by decide) (by decide) (by have := HNN.out; omega) ⟨_, _, _, rfl⟩
    go_wp2_with fail
    rw [← hW2]
    clear hW2
    refine HLD.mono ?_
    rintro e w3 ⟨v3, rfl, hf3⟩
    have HF3 : Hid (Fresh W2 w3 v3 (piesB (itsL E B i) ++ laidL (hedF m))) := hf3
    have HL3 : Hid ((piesB (itsL E B i) ++ laidL (hedF m)).length ≤ 600100) := hid (by rw [List.length_append]; have h9 := laidL_len (hedF m) (by intro q hq; simp only [hedF, List.mem_cons, List.not_mem_nil, or_false] at hq; rcases hq with rfl | rfl | rfl | rfl | rfl | rfl | rfl | rfl | rfl | rfl | rfl <;> simp only <;> omega) 11; rw [List.take_of_length_le (by simp [hedF])] at h9; have := HNN.out; omega)
    have k0 := (Same.trans HKW2.out hf3.kept).cell k0 (fun f => f)
    have HBS : Hid (∀ wx, Same w2 wx → Src wx (fun k => k = wr.heap.size) (.slice (some ⟨wr.heap.size, 0, none⟩) sz G) bd) := hid (fun wx hk => HBD.out.1.kept hk (fun _ _ _ f => f))
    have HCZ : Hid (w.cell? ⟨b, o + i * 2, none⟩ = some (.string (txt m.name))) := hid (by rw [← hyn]; exact HCL.out.1)
    clear hf3 HLD
    go_wp2_with (first | (at_builtin; refine wpList_append_str _ rfl (.tmp 61) (.tmp 66) rfl W2 _ _ rfl HF3.out m.name rfl HLZ.out.2.1 (by have := HL3.out; have := HLZ.out.2.2.1; omega) ?_; intro v4 w4 hf4; have HF4 : Hid (Fresh W2 w4 v4 (piesB (itsL E B i) ++ laidL (hedF m) ++ m.name)) := hf4; clear hf4) | (at_builtin; refine wpList_append_fresh _ rfl (.tmp 68) (.tmp 69) rfl W2 _ _ rfl HF4.out _ _ bd rfl HBD.out.2.1 (HBS.out _ (Same.trans HKW2.out HF4.out.kept)) (by rw [List.length_append]; have := HL3.out; have := HLZ.out.2.2; omega) ?_; intro v5 w5 hf5; have HF5 : Hid (Fresh W2 w5 v5 (piesB (itsL E B (i + 1)))) := hid (by rw [itsL_succ, piesB_app, ← HX.out.1, ← HX.out.2.1, ← HX.out.2.2.1, ← HX.out.2.2.2.1]; unfold pieB; rw [show (It.mk m bd).lab = m from rfl, show (It.mk m bd).bytes = bd from rfl, ← hedF_is]; simpa only [List.append_assoc] using hf5); have HW5 : Hid (Same wr w5) := hid (Same.trans HRW.out hf5.kept); have k05 := (Same.trans HSW.out HW5.out).cell HCZ.out (fun f => f); clear hf5 k0))
    obtain ⟨W6, hW6⟩ : ∃ W, W = w5.alloc (.cells #[.int .i64 33639248, .int .i64 4, .int .i64 20, .int .i64 2, .int .i64 20, .int .i64 2, .int .i64 0, .int .i64 2, .int .i64 0, .int .i64 2, .int .i64 0, .int .i64 2, .int .i64 33, .int .i64 2, .int .i64 (m.sum : Nat), .int .i64 4, .int .i64 (sz : Nat), .int .i64 4, .int .i64 (sz : Nat), .int .i64 4, .int .i64 (sn : Nat), .int .i64 2, .int .i64 0, .int .i64 2, .int .i64 0, .int .i64 2, .int .i64 0, .int .i64 2, .int .i64 0, .int .i64 2, .int .i64 0, .int .i64 4, .int .i64 (np : Nat), .int .i64 4] 3) := ⟨_, rfl⟩
    have HKW6 : Hid (Same w5 W6) := hid (by rw [hW6]; exact (Kept.refl _ w5).alloc _)
    have HRW6 : Hid (Same wr W6) := hid (Same.trans HW5.out HKW6.out)
    have HLD : Calls Tryz.prog 48 #[.slice ar nr cr, .slice (some ⟨w5.heap.size, 0, none⟩) 34 34] W6 fun e w' => ∃ v', e = .returned v' ∧ Fresh W6 w' v' (recsB 0 (itsL E B i) ++ laidL (recF m np)) :=
     rlaid_any W6 (.slice ar nr cr) _ (recsB 0 (itsL E B i)) w5.heap.size (recF m np) 17 rfl (Src.ofRow (HI.out.2.row.kept HRW6.out (fun _ _ f => f))) (by rw [hW6]; exact flds_new w5 (recF m np) _ (by simp [recF, fE, HWY.out, HMM.out.2.1, HMM.out.2.2.1, HMM.out.2.2.2, ← HBD.out.2.2])) (by have h1 := HLZ.out.1; intro q hq; simp only [recF, List.mem_cons, List.not_mem_nil, or_false] at hq; have := h1.way; have := h1.sum; have := h1.packed; have := h1.size; have := h1.name; rcases hq with rfl | rfl | rfl | rfl | rfl | rfl | rfl | rfl | rfl | rfl | rfl | rfl | rfl | rfl | rfl | rfl | rfl <;> simp only <;> omega) (by decide) (by decide) (by have := HNN.out; omega) ⟨_, _, _, rfl⟩
    go_wp2_with fail
    rw [← hW6]
    clear hW6
    refine HLD.mono ?_
    rintro e w7 ⟨v7, rfl, hf7⟩
    have HF7 : Hid (Fresh W6 w7 v7 (recsB 0 (itsL E B i) ++ laidL (recF m np))) := hf7
    have HL7 : Hid ((recsB 0 (itsL E B i) ++ laidL (recF m np)).length ≤ 8200) := hid (by rw [List.length_append]; have h9 := laidL_len (recF m np) (by intro q hq; simp only [recF, List.mem_cons, List.not_mem_nil, or_false] at hq; rcases hq with rfl | rfl | rfl | rfl | rfl | rfl | rfl | rfl | rfl | rfl | rfl | rfl | rfl | rfl | rfl | rfl | rfl <;> simp only <;> omega) 17; rw [List.take_of_length_le (by simp [recF])] at h9; have := HNN.out; omega)
    have k07 := (Same.trans HKW6.out hf7.kept).cell k05 (fun f => f)
    clear hf7 HLD k05
    go_wp2_with (at_builtin; refine wpList_append_str _ rfl (.tmp 87) (.tmp 92) rfl W6 _ _ rfl HF7.out m.name rfl HLZ.out.2.1 (by have := HL7.out; have := HLZ.out.2.2.1; omega) ?_; intro v8 w8 hf8)
    have HN : Hid (Fresh w w8 v5 (piesB (itsL E B (i + 1))) ∧ Fresh w w8 v8 (recsB 0 (itsL E B (i + 1)))) := hid (by
     have h68 : Same w5 w8 := Same.trans HKW6.out hf8.kept
     have hww : Same w W2 := Same.trans HSW.out HRW.out
     refine ⟨⟨HF5.out.row.kept h68 (fun _ _ f => f), Same.trans (Same.trans hww HF5.out.kept) h68, fun k e => Nat.le_trans hww.size (HF5.out.new k e)⟩, ?_⟩
     refine Fresh.base8 (Same.trans HSW.out HRW6.out) ?_
     rw [itsL_succ, recsB_app, Nat.zero_add, ← HNN.out.1, ← HX.out.1, ← HX.out.2.1, ← HX.out.2.2.1, ← recF_is, ← List.append_assoc]
     exact hf8)
    clear hf8
    go_wp2_with fail
    go_roundg (gk - 1)
    case measure => omega
    case rel => exact ⟨i + 1, by go_num, by omega, by omega, HN⟩
  ·have hli : decide (i < len) = false := by simp; omega
   obtain rfl : i = len := by omega
   go_wp2_with (at_builtin; refine wpList_append_fresh _ rfl (.tmp 98) (.tmp 99) rfl w _ _ rfl HI.out.1 _ _ (recsB 0 (itsL E B i)) rfl (nil8 HI.out.2.row) (Src.ofRow HI.out.2.row) (by have := HNN.out; omega) ?_; intro v3 w3 hf3)
   have HF3 : Hid (Fresh w w3 v3 (piesB (itsL E B i) ++ recsB 0 (itsL E B i))) := hf3
   obtain ⟨a3, c3, hv3, _⟩ := hf3.row.shape
   obtain ⟨n3, hn3⟩ : ∃ n, n = (piesB (itsL E B i) ++ recsB 0 (itsL E B i)).length := ⟨_, rfl⟩
   have HN3 : Hid (n3 = (piesB (itsL E B i) ++ recsB 0 (itsL E B i)).length) := hn3
   rw [← hn3] at hv3
   subst hv3
   obtain ⟨W6, hW6⟩ : ∃ W, W = w3.alloc (.cells #[.int .i64 101010256, .int .i64 4, .int .i64 0, .int .i64 2, .int .i64 0, .int .i64 2, .int .i64 (i : Nat), .int .i64 2, .int .i64 (i : Nat), .int .i64 2, .int .i64 (nr : Nat), .int .i64 4, .int .i64 (np : Nat), .int .i64 4, .int .i64 0, .int .i64 2] 3) := ⟨_, rfl⟩
   have HKW6 : Hid (Same w3 W6) := hid (by rw [hW6]; exact (Kept.refl _ w3).alloc _)
   have HLD : Calls Tryz.prog 48 #[.slice a3 n3 c3, .slice (some ⟨w3.heap.size, 0, none⟩) 16 16] W6 fun e w' => ∃ v', e = .returned v' ∧ Fresh W6 w' v' (piesB (itsL E B i) ++ recsB 0 (itsL E B i) ++ laidL (endF i nr np)) :=
    rlaid_any W6 (.slice a3 n3 c3) _ _ w3.heap.size (endF i nr np) 8 rfl (Src.ofRow (HF3.out.row.kept HKW6.out (fun _ _ f => f))) (by rw [hW6]; exact flds_new w3 (endF i nr np) _ (by simp [endF, fE])) (by intro q hq; simp only [endF, List.mem_cons, List.not_mem_nil, or_false] at hq; rcases hq with rfl | rfl | rfl | rfl | rfl | rfl | rfl | rfl <;> simp only <;> omega) (by decide) (by decide) (by rw [← HN3.out]; have := HN3.out; rw [List.length_append] at this; have := HNN.out; omega) ⟨_, _, _, rfl⟩
   clear hf3 hn3
   go_wp2_with fail
   rw [← hW6]
   clear hW6
   refine HLD.mono ?_
   rintro e w7 ⟨v7, rfl, hf7⟩
   have HF7 : Hid (Fresh w w7 v7 (filB (itsL E B i))) := hid (by
    refine Fresh.base8 (Same.trans HF3.out.kept HKW6.out) ?_
    unfold filB
    rw [show (itsL E B i).length = i by simp [itsL], ← HNN.out.1, ← HNN.out.2, ← endF_is, ← List.append_assoc]
    exact hf7)
   clear hf7 HLD
   go_wp2_with fail
   go_ret
   exact ⟨_, rfl, HF7.out⟩

end Go.Proofs.YtljlmfnbeofmmaaGreatDoor
