import Derived.Test.YtljlmfnbeofmmaaGreatDoorHStab
import Derived.Test.YtljlmfnbeofmmaaGreatDoorSam
namespace Go.Proofs.YtljlmfnbeofmmaaGreatDoor
open Go.RowKit

set_option maxHeartbeats 1000000 in
theorem stable_none (w : World) (ao : Option Addr) (cap : Nat) (cv : Value) :
  Calls Tryz.prog 222 #[.slice ao 0 cap, .int .i64 0, cv] w fun e w' => (∃ v, e = .returned v) ∧ w' = w := by
 have HI : Calls Tryz.prog 243 #[.slice ao 0 cap, .int .i64 0, .int .i64 0, cv] w fun e w' => (∃ v, e = .returned v) ∧ w' = w := by
  go_enter Tryz.func243, Tryz.ntmps243
  go_wp2_with fail
  go_loopg [8] 1 (fun _ z wr => z = .int .i64 1 ∧ wr = w)
  case atStart => exact ⟨rfl, rfl⟩
  case round =>
   obtain ⟨rfl, rfl⟩ := hrel
   go_wp2_with fail
   go_end0
   exact ⟨⟨_, rfl⟩, rfl⟩
 go_enter Tryz.func222, Tryz.ntmps222
 go_wp2_with fail
 go_loopg [7, 8] 1 (fun _ z y wr => z = .int .i64 0 ∧ y = .int .i64 20 ∧ wr = w)
 case atStart => exact ⟨rfl, rfl, rfl⟩
 case round =>
  obtain ⟨rfl, rfl, rfl⟩ := hrel
  go_wp2_with fail
  refine HI.mono ?_
  rintro e w2 ⟨⟨v, rfl⟩, rfl⟩
  go_wp2_with fail
  go_loopg [6] 1 (fun _ z wx => z = .int .i64 20 ∧ wx = w2)
  case atStart => exact ⟨rfl, rfl⟩
  case round =>
   obtain ⟨rfl, rfl⟩ := hrel
   go_wp2_with fail
   go_end0
   exact ⟨⟨_, rfl⟩, rfl⟩

set_option maxHeartbeats 1000000 in
theorem sort_none (w : World) (ao : Option Addr) (cap : Nat) (cv : Value) :
  Calls Tryz.prog 188 #[.slice ao 0 cap, cv] w fun e w' => (∃ v, e = .returned v) ∧ w' = w := by
 have H := stable_none w ao cap cv
 go_enter Tryz.func188, Tryz.ntmps188
 go_wp2_with fail
 refine H.mono ?_
 rintro e w2 ⟨⟨v, rfl⟩, rfl⟩
 go_wp2_with fail
 go_end0
 exact ⟨⟨_, rfl⟩, rfl⟩

set_option maxHeartbeats 1000000 in
theorem sort_any (w : World) (B g n cap bx : Nat) (I : Nat → Prop) (ns d : List Nat) (hM : Mem w B g n cap bx I ns d) (hd : d.Pairwise (· < ·)) (hm : ∀ x ∈ d, x < ns.length) :
  Calls Tryz.prog 188 #[.slice (some ⟨g, 0, none⟩) n cap, cmpV bx] w fun e w' => (∃ v, e = .returned v) ∧ ∃ d', d'.Perm d ∧ Sorted ns d' ∧ Mem w' B g n cap bx I ns d' ∧ Kept (· = g) w w' := by
 have H := stable_any w B g n cap bx I ns d hM hd hm
 clear hM hd hm
 go_enter Tryz.func188, Tryz.ntmps188
 go_wp2_with fail
 refine H.mono ?_
 rintro e w2 ⟨⟨v, rfl⟩, h⟩
 have HH : Hid (∃ d', d'.Perm d ∧ Sorted ns d' ∧ Mem w2 B g n cap bx I ns d' ∧ Kept (· = g) w w2) := h
 clear h H
 go_wp2_with fail
 go_end0
 exact ⟨⟨_, rfl⟩, HH.out⟩

def usedTo (ns : List Nat) (i : Nat) : List Nat := (List.range i).filter (fun s => key ns s != 0)

theorem usedTo_succ (ns : List Nat) (i : Nat) : usedTo ns (i + 1) = usedTo ns i ++ (if key ns i = 0 then [] else [i]) := by
 unfold usedTo
 rw [List.range_succ, List.filter_append]
 congr 1
 by_cases h : key ns i = 0 <;> simp [h]

theorem usedTo_length (ns : List Nat) (i : Nat) : (usedTo ns i).length ≤ i := by
 have := List.length_filter_le (fun s => key ns s != 0) (List.range i)
 simpa [usedTo] using this

structure New (w w' : World) (v : Value) (xs : List Nat) : Prop where
 row : NRow w.heap.size w' v xs
 same : Same w w'

set_option maxHeartbeats 2000000 in
theorem rising_any (w : World) (v : Value) (I : Nat → Prop) (ns : List Nat) (hs : SrcE natV w I v ns) (hn : ns.length ≤ 1000000) :
  Calls Tryz.prog 157 #[v] w fun e w' => ∃ v', e = .returned v' ∧ New w w' v' (ris ns) := by
 obtain ⟨ao, cap, rfl, _, _⟩ := id hs
 have hs0 := hs.low
 have HS : Hid (SrcE natV w (fun k => I k ∧ k < w.heap.size) (.slice ao ns.length cap) ns) := hs0
 clear hs hs0
 go_enter Tryz.func157, Tryz.ntmps157
 go_wp2_with fail
 go_loopg [3, 8] ns.length (fun q zo zi wr => ∃ (i : Nat), ns.length - i ≤ q ∧ i ≤ ns.length ∧ zi = .int .i64 (i : Nat) ∧ Hid (NRow (w.heap.size + 1) wr zo (usedTo ns i)) ∧ Hid (Kept (fun _ => False) (w.alloc (.cells #[.slice ao ns.length cap] 117)) wr))
 case atStart => exact ⟨0, by omega, by omega, rfl, RowE.nil, Kept.refl _ _⟩
 case round =>
  obtain ⟨i, hq, hin, rfl, HR, HK⟩ := hrel
  have HK0 : Hid (Same w wr) := hid (Same.trans ((Kept.refl _ w).alloc _) HK.out)
  have hsz : w.heap.size + 1 ≤ wr.heap.size := by have := HK.out.size; simpa using this
  by_cases hlt : i < ns.length
  ·obtain ⟨b, o, cap2, e, _, _, hc⟩ := (HS.out.same HK0.out).get i hlt
   simp only [Value.slice.injEq] at e
   obtain ⟨rfl, _, rfl⟩ := e
   rw [← key_get hlt] at hc
   unfold natV at hc
   by_cases h0 : key ns i = 0
   ·rw [h0] at hc
    have HE : Hid (usedTo ns (i + 1) = usedTo ns i) := hid (by rw [usedTo_succ, if_pos h0, List.append_nil])
    clear h0
    go_wp2_with fail
    go_roundg (gk - 1)
    case measure => omega
    case rel => exact ⟨i + 1, by omega, by omega, by go_num, hid (by rw [HE.out]; exact HR.out), HK⟩
   ·obtain ⟨z, hz⟩ : ∃ z, z = key ns i := ⟨_, rfl⟩
    rw [← hz] at hc h0
    have hd : ((z : Int) != 0) = true := by simp; omega
    have HE : Hid (usedTo ns (i + 1) = usedTo ns i ++ [i]) := hid (by rw [usedTo_succ, if_neg (by omega)])
    have HL : Hid ((usedTo ns i).length + [i].length ≤ 1000000000) := hid (by have := usedTo_length ns i; simp; omega)
    clear hz
    go_wp2_with (at_builtin; refine wpList_append_e _ natV natV_one (w.heap.size + 1) 117 3 (natV 0) 8 Tryz.underlying117 Tryz.infoN rfl (by decide) rfl (.tmp 15) (.tmp 17) rfl u3 (usedTo ns i) rfl (World.ownsRow.alloc HR.out _) ⟨wr.heap.size, 0, none⟩ 1 1 [i] rfl rfl (cellsAt_new _ _ _) HL.out (by simp; omega) ?_; intro v' w1 hrow hgr)
    have HR1 : Hid (NRow (w.heap.size + 1) w1 v' (usedTo ns i ++ [i])) := hrow
    have HK1 : Hid (Kept (fun _ => False) (w.alloc (.cells #[.slice (some ⟨b, o, none⟩) ns.length cap] 117)) w1) := hid ((HK.out.alloc _).grown hgr (fun k e => .inr (by have := HR.out.ge e; simpa using this)))
    clear hrow hgr
    go_wp2_with fail
    go_roundg (gk - 1)
    case measure => omega
    case rel => exact ⟨i + 1, by omega, by omega, by go_num, hid (by rw [HE.out]; exact HR1.out), HK1⟩
  ·have hi : i = ns.length := by omega
   subst hi
   have hbox : wr.cell? ⟨w.heap.size, 0, none⟩ = some (.slice ao ns.length cap) := HK.out.cell (by simp) (fun h => h)
   have hu : usedTo ns ns.length = usedL ns := rfl
   have HR1 : Hid (NRow (w.heap.size + 1) wr u3 (usedL ns)) := HR
   clear HR hu
   by_cases hnil : usedL ns = []
   ·obtain ⟨ao2, cap2, rfl, _⟩ := HR1.out.shape
    have h0 : (usedL ns).length = 0 := by rw [hnil]; rfl
    have HR2 := HR1
    rw [h0] at HR2 ⊢
    have HC := sort_none wr ao2 cap2 (cmpV w.heap.size)
    have HNIL : Hid (usedL ns = []) := hnil
    clear h0 hnil hlt hbox
    go_wp2_with fail
    refine HC.mono ?_
    rintro e w2 ⟨⟨vv, rfl⟩, rfl⟩
    go_wp2_with fail
    go_ret
    have e0 : ris ns = usedL ns := List.Perm.eq_nil (by have := ris_perm ns; rw [HNIL.out] at this; exact this) |>.trans HNIL.out.symm
    exact ⟨_, rfl, by rw [e0]; exact RowE.base HR2.out (by omega), HK0.out⟩
   ·obtain ⟨g, cap2, rfl, hg1, hg2, _⟩ := HR1.out.some hnil
    have HM : Mem wr (w.heap.size + 1) g (usedL ns).length cap2 w.heap.size (fun k => I k ∧ k < w.heap.size) ns (usedL ns) :=
     ⟨HR1.out, ⟨_, hbox, HS.out.same HK0.out⟩, by omega, fun k hk => by omega, by have := usedL_length ns; omega, hn⟩
    have HC := sort_any wr _ _ _ _ _ _ _ _ HM (usedL_lt ns) (fun x hx => (mem_usedL.1 hx).1)
    clear HM hnil hlt hbox
    generalize (usedL ns).length = un at *
    go_wp2_with fail
    refine HC.mono ?_
    rintro e w2 ⟨⟨vv, rfl⟩, d', p1, s1, hm1, hk1⟩
    have HN : Hid (New w w2 (.slice (some ⟨g, 0, none⟩) un cap2) (ris ns)) := hid (by
     refine ⟨?_, HK0.out.then hk1 (fun x hx e => by omega)⟩
     rw [← ris_eq s1 p1]
     exact RowE.base hm1.row (by omega))
    clear p1 s1 hm1 hk1 HC
    go_wp2_with fail
    go_ret
    exact ⟨_, rfl, HN.out⟩

end Go.Proofs.YtljlmfnbeofmmaaGreatDoor
