/-
  Layer 19: names.
-/
import Derived.Test.YtaefgnakdadgeaaWiN
namespace Go.Proofs.Ytaefgnakdadgeaa
open Go.RowKit

/-- A text as an element of a list. -/
def nsE (s : ByteArray) : List Value := [.string s]

theorem nsE_ok : EncOk nsE 1 := ⟨fun _ => rfl, fun s u hu => by simp only [nsE, List.mem_singleton] at hu; subst hu; rfl, by decide⟩

set_option maxRecDepth 100000 in
set_option maxHeartbeats 1000000 in
theorem sindex19 (w : World) (ao : Option Addr) (n c : Nat) (I : Nat → Prop) (l : List ByteArray) (hl : SrcC 1 nsE w I (.slice ao n c) l) (hn : l.length ≤ 100) (f : Nat) (cap : Array Value) (P : ByteArray → Bool) (hmf : ∀ args w, (callFunc f args).run Try.prog w = .ok (.enter f args) w)
    (hp : ∀ x ∈ l, ∀ wx, Same w wx → Calls Try.prog f (#[.string x] ++ cap) wx fun e w' => e = .returned (.bool (P x)) ∧ Same wx w') :
    Calls Try.prog 59 #[.slice ao n c, .func (.func f) #[] cap] w fun e w' => IxA P l w e w' := by
  obtain ⟨ao2, cap2, he, _, _⟩ := id hl
  simp only [Value.slice.injEq] at he
  obtain ⟨rfl, hnl, rfl⟩ := he
  have HL := hid hl
  have HP := hid hp
  have HN : Hid (n = l.length ∧ n ≤ 100) := hid ⟨hnl, by omega⟩
  clear hl hp hnl hn
  go_enter Try.func59, Try.ntmps59
  go_wp2_with fail
  go_loopg [8] n (fun k z wr => ∃ i : Nat, n - i ≤ k ∧ i ≤ n ∧ z = .int .i64 (i : Nat) ∧ Hid ((l.take i).any P = false ∧ Same w wr))
  case atStart => exact ⟨0, by omega, by omega, rfl, hid ⟨by simp, Kept.refl _ _⟩⟩
  case round =>
    obtain ⟨i, hk, hil, rfl, HX⟩ := hrel
    by_cases hlt : i < n
    · obtain ⟨ao2, cap2, he, _, hcells⟩ := (HL.out.kept (nsE_ok) HX.out.2 (fun _ _ _ f => f))
      simp only [Value.slice.injEq] at he
      obtain ⟨rfl, hnl, rfl⟩ := he
      obtain ⟨b, o, rfl, hIb, hce⟩ := hcells (fun e => by rw [e] at hnl; simp at hnl; omega)
      have c0 := hce i (by omega) 0 (by decide)
      rw [Nat.mul_one, Nat.add_zero] at c0
      obtain ⟨x, hx⟩ : ∃ x, x = l[i]'(by omega) := ⟨_, rfl⟩
      rw [← hx] at c0
      simp only [nsE, List.getElem?_cons_zero] at c0
      have hxl : x ∈ l := by rw [hx]; exact List.getElem_mem _
      have HC := HP.out x hxl wr HX.out.2
      have HANY : Hid (P x = true → l.any P = true) := hid (fun h => List.any_eq_true.2 ⟨x, hxl, h⟩)
      have HNO : Hid (P x = false → (l.take (i + 1)).any P = false) := hid (fun h => any_take P l i (by omega) HX.out.1 (by rw [← hx]; exact h))
      have hiw : IntKind.i64.wrap ((i : Int) + 1) = ((i + 1 : Nat) : Int) := by have := HN.out; rw [IntKind.wrap_i64]; omega
      obtain ⟨v, hv⟩ : ∃ v, v = Value.string x := ⟨_, rfl⟩
      rw [← hv] at c0 HC
      clear hce hcells hx hnl hxl hv
      cases hb : P x with
      | true =>
        rw [hb] at HC
        have HE := hid (HANY.out hb)
        clear hb
        go_wp2_with fail
        refine HC.mono ?_
        rintro e w2 ⟨rfl, hk2⟩
        have HK2 := hid (Same.trans HX.out.2 hk2)
        clear hk2 HC
        go_wp2_with fail
        go_ret
        exact ⟨⟨(i : Int), rfl, by rw [HE.out]; simp⟩, HK2.out⟩
      | false =>
        rw [hb] at HC
        have HE := hid (HNO.out hb)
        clear hb
        go_wp2_with fail
        refine HC.mono ?_
        rintro e w2 ⟨rfl, hk2⟩
        have HX2 : Hid ((l.take (i + 1)).any P = false ∧ Same w w2) := hid ⟨HE.out, Same.trans HX.out.2 hk2⟩
        clear hk2 HC
        go_wp2_with fail
        go_roundg (gk - 1)
        case measure => omega
        case rel => exact ⟨i + 1, by omega, by omega, by go_num, HX2⟩
    · obtain rfl : i = n := by omega
      have hli : decide (i < i) = false := by simp
      go_wp2_with fail
      go_ret
      have h9 := HX.out.1
      rw [List.take_of_length_le (by have := HN.out.1; omega)] at h9
      exact ⟨⟨-1, rfl, by rw [h9]; rfl⟩, HX.out.2⟩

set_option maxHeartbeats 400000 in
theorem scontains19 (w : World) (ao : Option Addr) (n c : Nat) (I : Nat → Prop) (l : List ByteArray) (hl : SrcC 1 nsE w I (.slice ao n c) l) (hn : l.length ≤ 100) (f : Nat) (cap : Array Value) (P : ByteArray → Bool) (hmf : ∀ args w, (callFunc f args).run Try.prog w = .ok (.enter f args) w)
    (hp : ∀ x ∈ l, ∀ wx, Same w wx → Calls Try.prog f (#[.string x] ++ cap) wx fun e w' => e = .returned (.bool (P x)) ∧ Same wx w') :
    Calls Try.prog 52 #[.slice ao n c, .func (.func f) #[] cap] w fun e w' => e = .returned (.bool (l.any P)) ∧ Same w w' := by
  have H := sindex19 w ao n c I l hl hn f cap P hmf hp
  obtain ⟨B, hB⟩ : ∃ B, B = l.any P := ⟨_, rfl⟩
  have HB := hid hB
  rw [← hB]
  clear hl hp hn hB
  go_enter Try.func52, Try.ntmps52
  go_wp2_with fail
  refine H.mono ?_
  rintro e w2 ⟨⟨r, rfl, hr⟩, hk⟩
  have HK := hid hk
  have HR : Hid (decide (0 ≤ r) = B) := hid (by rw [hr, HB.out])
  clear hk H hr
  go_wp2_with fail
  go_ret
  exact ⟨by rw [← HR.out]; rfl, HK.out⟩

set_option maxHeartbeats 400000 in
theorem tool1_any (w : World) (s : ByteArray) : Calls Try.prog 53 #[.string s] w fun e w' => e = .returned (.bool (decide (255 < s.size))) ∧ Same w w' := by
  obtain ⟨B, hB⟩ : ∃ B, B = decide (255 < s.size) := ⟨_, rfl⟩
  obtain ⟨n, hn⟩ : ∃ n, n = s.size := ⟨_, rfl⟩
  have d1 : decide ((255 : Int) < (n : Int)) = B := by rw [hB, hn, Bool.eq_iff_iff]; simp only [decide_eq_true_eq]; omega
  have d2 : decide (255 < n) = B := by rw [hB, hn]
  have hsn : s.size = n := hn.symm
  rw [← hB]
  clear hB hn
  go_enter Try.func53, Try.ntmps53
  go_wp2_with fail
  go_ret
  exact ⟨rfl, Kept.refl _ _⟩

theorem Try.entertl : ∀ args w, (callFunc 53 args).run Try.prog w = .ok (.enter 53 args) w := enters_of Try.func53 (by kernel_rfl) rfl

def tooL (l : List ByteArray) : Bool := decide (64 < l.length) || l.any (fun s => decide (255 < s.size))

set_option maxRecDepth 100000 in
set_option maxHeartbeats 1000000 in
theorem toolong_any (w : World) (ao : Option Addr) (n c : Nat) (I : Nat → Prop) (l : List ByteArray) (hl : SrcC 1 nsE w I (.slice ao n c) l) :
    Calls Try.prog 39 #[.slice ao n c] w fun e w' => e = .returned (.bool (tooL l)) ∧ Same w w' := by
  obtain ⟨ao2, cap2, he, _, _⟩ := id hl
  simp only [Value.slice.injEq] at he
  obtain ⟨rfl, hnl, rfl⟩ := he
  by_cases h : 64 < n
  · have HE : Hid (tooL l = true) := hid (by unfold tooL; rw [← hnl]; simp [h])
    have d1 : decide ((64 : Int) < (n : Int)) = true := by simp; omega
    have d2 : decide (64 < n) = true := by simp; omega
    clear hl hnl h
    go_enter Try.func39, Try.ntmps39
    go_wp2_with fail
    go_ret
    exact ⟨by rw [HE.out]; rfl, Kept.refl _ _⟩
  · obtain ⟨B, hB⟩ : ∃ B, B = l.any (fun s => decide (255 < s.size)) := ⟨_, rfl⟩
    have HE : Hid (tooL l = B) := hid (by unfold tooL; rw [← hnl, ← hB]; simp; omega)
    have d1 : decide ((64 : Int) < (n : Int)) = false := by simp; omega
    have d2 : decide (64 < n) = false := by simp; omega
    have HC := scontains19 w ao n c I l hl (by omega) 53 #[] (fun s => decide (255 < s.size)) Try.entertl (fun x _ wx _ => by simpa using tool1_any wx x)
    rw [← hB] at HC
    clear hl hnl h hB
    go_enter Try.func39, Try.ntmps39
    go_wp2_with fail
    refine HC.mono ?_
    rintro e w2 ⟨rfl, hk2⟩
    have HK := hid hk2
    clear hk2 HC
    go_wp2_with fail
    go_ret
    exact ⟨by rw [HE.out]; rfl, HK.out⟩

/-- Names' bytes. -/
def nmL (l : List ByteArray) : List Nat := l.flatMap fun s => s.size :: sb s

theorem nmL_take (l : List ByteArray) (i : Nat) (h : i < l.length) : nmL (l.take (i + 1)) = nmL (l.take i) ++ l[i].size :: sb l[i] := by
  unfold nmL
  rw [List.take_succ_eq_append_getElem h, List.flatMap_append]
  simp

theorem nmL_len (l : List ByteArray) (h : ∀ s ∈ l, s.size ≤ 255) : (nmL l).length ≤ l.length * 256 := by
  induction l with
  | nil => simp [nmL]
  | cons f t ih =>
    have h1 := h f (List.mem_cons_self ..)
    have h2 := ih (fun g hg => h g (List.mem_cons_of_mem _ hg))
    unfold nmL at h2 ⊢
    rw [List.flatMap_cons, List.length_append, List.length_cons, List.length_cons, sb_size]
    omega

set_option maxRecDepth 100000 in
set_option maxHeartbeats 1000000 in
theorem laynames_any (w0 w : World) (v : Value) (bs : List Nat) (hv : Fresh w0 w v bs) (ao : Option Addr) (n c : Nat) (l : List ByteArray) (hl : SrcC 1 nsE w0 (fun k => k < w0.heap.size) (.slice ao n c) l) (hs : ∀ s ∈ l, s.size ≤ 255) (hn : l.length ≤ 64) (hb : bs.length ≤ 1000000) :
    Calls Try.prog 40 #[v, .slice ao n c] w fun e w' => ∃ v', e = .returned v' ∧ Fresh w0 w' v' (bs ++ l.length :: nmL l) := by
  obtain ⟨ao2, cap2, he, _, _⟩ := id hl
  simp only [Value.slice.injEq] at he
  obtain ⟨rfl, hnl, rfl⟩ := he
  have HL := hid hl
  have HS := hid hs
  have HN : Hid (n = l.length ∧ n ≤ 64 ∧ bs.length ≤ 1000000) := hid ⟨hnl, by omega, hb⟩
  have HV := hid hv
  have HLEN : Hid (∀ i, i ≤ n → (bs ++ n :: nmL (l.take i)).length ≤ 2000000) := hid (fun i hi => by
    have h1 := nmL_len (l.take i) (fun s h => hs s (List.mem_of_mem_take h))
    rw [List.length_take] at h1
    rw [List.length_append, List.length_cons]
    have : min i l.length ≤ 64 := by omega
    omega)
  have hnw : IntKind.u8.wrap (n : Int) = (n : Int) := by rw [IntKind.wrap_u8]; omega
  obtain ⟨W1, hW1⟩ : ∃ W, W = w.alloc (.cells #[.int .u8 (n : Nat)] 5) := ⟨_, rfl⟩
  clear hl hs hnl hn hv hb
  go_enter Try.func40, Try.ntmps40
  go_wp2_with (at_builtin; refine wpList_append_row _ rfl (.tmp 7) (.tmp 11) rfl v bs rfl (World.ownsRow.alloc HV.out.row _) ⟨w.heap.size, 0, none⟩ 1 1 [n] rfl rfl (bytesAt_int _ _ _ (by first | rfl | (simp; omega))) (by have := HN.out.2.2; simp; omega) ?_)
  intro v2 w2 hr2 hg2 ho2
  have HF2 : Hid (Fresh w0 w2 v2 (bs ++ [n])) := hid (HV.out.app hr2 hg2 (by simpa using ho2))
  clear hr2 hg2 ho2 hW1
  go_wp2_with fail
  go_loopg [0, 15] n (fun k o z wr => ∃ i : Nat, i ≤ n ∧ n - i ≤ k ∧ z = .int .i64 (i : Nat) ∧ Hid (Fresh w0 wr o (bs ++ n :: nmL (l.take i))))
  case atStart => exact ⟨0, by omega, by omega, rfl, hid (by simpa [nmL] using HF2.out)⟩
  case round =>
    obtain ⟨i, hi, hk, rfl, HX⟩ := hrel
    obtain ⟨vo, hvo⟩ : ∃ x, x = u0 := ⟨_, rfl⟩
    rw [← hvo] at HX ⊢
    clear hvo
    by_cases hlt : i < n
    · obtain ⟨ao2, cap2, he, hcap, hcells⟩ := (HL.out.kept nsE_ok HX.out.kept (fun _ _ _ f => f))
      simp only [Value.slice.injEq] at he
      obtain ⟨rfl, hnl, rfl⟩ := he
      obtain ⟨b, o, rfl, hIb, hce⟩ := hcells (fun e => by rw [e] at hnl; simp at hnl; omega)
      have c0 := hce i (by omega) 0 (by decide)
      rw [Nat.mul_one, Nat.add_zero] at c0
      obtain ⟨s, hse⟩ : ∃ s, s = l[i]'(by omega) := ⟨_, rfl⟩
      rw [← hse] at c0
      simp only [nsE, List.getElem?_cons_zero] at c0
      have hsz : s.size ≤ 255 := by rw [hse]; exact HS.out _ (List.getElem_mem _)
      have HFE : Hid (nmL (l.take (i + 1)) = nmL (l.take i) ++ s.size :: sb s) := hid (by rw [hse]; exact nmL_take l i (by omega))
      obtain ⟨m, hm⟩ : ∃ m, m = s.size := ⟨_, rfl⟩
      rw [← hm] at HFE hsz
      have hm9 : s.size = m := hm.symm
      have HM := hid hm
      have hmw : IntKind.u8.wrap (m : Int) = (m : Int) := by rw [IntKind.wrap_u8]; omega
      have hiw : IntKind.i64.wrap ((i : Int) + 1) = ((i + 1 : Nat) : Int) := by have := HN.out; rw [IntKind.wrap_i64]; omega
      have HSB := hid (sb_lt s)
      have HTS := hid (txt_sb s)
      have HLI : Hid ((bs ++ n :: nmL (l.take i)).length ≤ 2000000 ∧ m ≤ 255) := hid ⟨HLEN.out i hi, hsz⟩
      clear hce hcells hse hnl hcap hm hsz
      go_wp2_with (at_builtin; refine wpList_append_row _ rfl (.tmp 19) (.tmp 23) rfl vo _ rfl (World.ownsRow.alloc HX.out.row _) ⟨wr.heap.size, 0, none⟩ 1 1 [m] rfl rfl (bytesAt_int _ _ _ (by first | rfl | (simp; omega))) (by have := HLI.out; simp only [List.length_cons, List.length_nil] at this ⊢; omega) ?_)
      intro v3 w3 hr3 hg3 ho3
      have HF3 : Hid (Fresh w0 w3 v3 (bs ++ n :: nmL (l.take i) ++ [m])) := hid (HX.out.app (cs := [m]) (by simpa using hr3) hg3 (by simpa using ho3))
      clear hr3 hg3 ho3
      go_wp2_with (at_builtin; refine wpList_append_txt _ rfl (.tmp 24) (.tmp 25) rfl w0 v3 _ rfl HF3.out (sb s) (by rw [HTS.out]; rfl) HSB.out (by have h1 := HLI.out; rw [List.length_append, sb_size, ← HM.out, List.length_singleton]; omega) ?_)
      intro v4 w4 hf4
      have HX2 : Hid (Fresh w0 w4 v4 (bs ++ n :: nmL (l.take (i + 1)))) := hid (by
        rw [HFE.out]
        simpa using hf4)
      clear hf4
      go_wp2_with fail
      go_roundg (gk - 1)
      case measure => omega
      case rel => exact ⟨i + 1, by omega, by omega, by go_num, HX2⟩
    · obtain rfl : i = n := by omega
      have hli : decide (i < i) = false := by simp
      go_wp2_with fail
      go_ret
      refine ⟨_, rfl, ?_⟩
      have h9 := HX.out
      rw [List.take_of_length_le (by have := HN.out.1; omega)] at h9
      rw [← HN.out.1]
      exact h9

end Go.Proofs.Ytaefgnakdadgeaa
