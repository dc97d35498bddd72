import Derived.Test.YtljlmfnbeofmmaaGreatDoorZrB
import Derived.Test.YtljlmfnbeofmmaaGreatDoorZrL
import Derived.Test.YtljlmfnbeofmmaaGreatDoorZrN
import Derived.Test.YtljlmfnbeofmmaaGreatDoorHArgs
namespace Go.Proofs.YtljlmfnbeofmmaaGreatDoor
open Go.RowKit

theorem i64_bounds8 {z : Int} (h : (Lit.int .i64 z).wf = true) : -9223372036854775808 ≤ z ∧ z ≤ 9223372036854775807 := by
 simp [Lit.wf, IntKind.min, IntKind.max, IntKind.signed, IntKind.bits] at h
 omega

theorem rd8_bad {bs : List Nat} {k : Nat} (h : opf8 bs = .error k) : rd8 bs = .error k := by unfold rd8; rw [h]

theorem Src.take8 {w : World} {I : Nat → Prop} {a : Option Addr} {n cap k : Nat} {bs : List Nat} (h : Src w I (.slice a n cap) bs) (hk : k ≤ bs.length) (c' : Nat) : Src w I (.slice a k c') (bs.take k) := by
 obtain ⟨ao, c, e, hs⟩ := h
 simp only [Value.slice.injEq] at e
 obtain ⟨rfl, hn, rfl⟩ := e
 refine ⟨a, c', by rw [List.length_take, Nat.min_eq_left hk], fun hne => ?_⟩
 obtain ⟨b, o, h1, h2, h3⟩ := hs (fun e => hne (by rw [e]; simp))
 refine ⟨b, o, h1, h2, fun j hj => ?_⟩
 rw [List.length_take] at hj
 rw [h3 j (by omega), List.getElem_take]

set_option maxRecDepth 100000 in
set_option maxHeartbeats 400000 in
theorem zcuts_any (a : Option Addr) (len cap : Nat) (E : Nat → En) (m : Int) (W : World) (he : Ents W (fun _ => True) a len E) (hc : len ≤ cap) (hr : len ≤ reachBytes) (hz : ∀ j, j < len → (E j).n.size ≤ reachBytes ∧ (E j).d.size ≤ reachBytes) (hm : (Lit.int .i64 m).wf = true) (hT : Tab W) (hx : Mxl W) :
  Calls Tryz.prog 7 #[.slice a len cap, .int .i64 m] W fun e w' => e = .returned (.bool true) ∧ Same W w' := by
 have HL := zlarge_any W a len cap E he hr hz
 have HS : Hid (Ents W (fun _ => True) a len E) := he
 have HX : Hid (Mxl W) := hx
 have HT : Hid (Tab W) := hT
 have hmb : -9223372036854775808 ≤ m ∧ m ≤ 9223372036854775807 := i64_bounds8 hm
 have HM : Hid (-9223372036854775808 ≤ m ∧ m ≤ 9223372036854775807) := hmb
 have HC : Hid (len ≤ cap) := hc
 clear he hz hm hx hT hr hmb hc
 go_enter Tryz.func7, Tryz.ntmps7
 go_wp2_with fail
 refine HL.mono ?_
 rintro e w1 ⟨⟨b, rfl, hlg⟩, hk1⟩
 have HK1 : Hid (Same W w1) := hk1
 have HLG : Hid (LgA E len b) := hlg
 clear hk1 HL hlg
 cases b with
 | true =>
  have HA := zawake_any w1 (HX.out.kept HK1.out (fun f => f)) (HT.out.kept HK1.out (fun f => f))
  go_wp2_with fail
  refine HA.mono ?_
  rintro e w2 ⟨rfl, hk2⟩
  have HK2 : Hid (Same W w2) := hid (Same.trans HK1.out hk2)
  clear hk2 HA
  go_wp2_with fail
  go_ret
  exact ⟨rfl, HK2.out⟩
 | false =>
  have hlen : len ≤ 16777216 := (HLG.out rfl).1
  by_cases hck : chkE E len = 0
  ·have HWr := zwrite_good w1 a len cap E (HS.out.kept HK1.out (fun _ _ f => f)) HC.out (HX.out.kept HK1.out (fun f => f)) (HT.out.kept HK1.out (fun f => f)) hck
   go_wp2_with fail
   refine HWr.mono ?_
   rintro e w2 ⟨v2, L, rfl, hf2, hi2⟩
   obtain ⟨hok, _, h64⟩ := its_ok hi2 hck
   have hsm := its_small hi2 hck
   have hby := its_byte hi2 hck
   have hah := ahead_bad h64 hsm 80
   have HCUT : Hid (∀ k, k < (filB L).length → ∃ x, opf8 ((filB L).take k) = .error x ∧ x ≠ 0) := hid (cut_bad hok h64 hsm)
   have h22 : 22 ≤ (filB L).length := by rw [filB_length]; omega
   obtain ⟨F, hF⟩ : ∃ F, F = filB L := ⟨_, rfl⟩
   rw [← hF] at hf2 hsm hby hah HCUT h22
   obtain ⟨a2, c2, hv2, hcap2, _⟩ := hf2.row.shape8
   obtain ⟨n, hn⟩ : ∃ n, n = F.length := ⟨_, rfl⟩
   rw [← hn] at hv2 hcap2 hsm HCUT h22
   subst hv2
   have HR2 : Hid (Row w2 (.slice a2 n c2) F) := hid hf2.row
   have HN : Hid (n = F.length) := hn
   have HBY : Hid (∀ x ∈ F, x < 256) := hby
   have HK2 : Hid (Same W w2) := hid (Same.trans HK1.out hf2.kept)
   have HAH : Hid (opf8 (80 :: F) = .error 81 ∨ opf8 (80 :: F) = .error 2) := hah
   have b1 : decide ((1048576 : Int) < (n : Int)) = false := by simp; omega
   have b1' : decide (1048576 < n) = false := by simp; omega
   have b2 : decide ((n : Int) < 22) = false := by simp; omega
   have b2' : decide (n < 22) = false := by simp; omega
   have b3 : ((n : Int) == 0) = false := by simp; omega
   clear hf2 hi2 hok h64 hby hah hF hn HWr hck HLG
   have hsign : (∃ c0 : Nat, m = (c0 : Int) ∧ c0 < 9223372036854775808) ∨ (∃ c0 : Nat, m < 0 ∧ -(m + 1) = (c0 : Int) ∧ c0 < 9223372036854775808) := by
    have := HM.out
    by_cases h : m < 0
    ·exact .inr ⟨(-(m + 1)).toNat, h, by omega, by omega⟩
    ·exact .inl ⟨m.toNat, by omega, by omega⟩
   rcases hsign with ⟨c0, hc0, hc1⟩ | ⟨c0, hneg, hc0, hc1⟩
   ·subst hc0
    have s1 : decide ((c0 : Int) < 0) = false := by simp
    obtain ⟨r, hr⟩ : ∃ r, r = c0 % n := ⟨_, rfl⟩
    have hrn : r < n := by rw [hr]; exact Nat.mod_lt _ (by omega)
    have t1 : Int.tmod (c0 : Int) (n : Int) = (r : Int) := by rw [hr]; rfl
    have t1' : (c0 : Int) % (n : Int) = (r : Int) := by rw [hr]; rfl
    obtain ⟨x, hx⟩ : ∃ x, x = 1 + r := ⟨_, rfl⟩
    obtain ⟨k, hk⟩ : ∃ k, k = n - x := ⟨_, rfl⟩
    have t2 : (1 : Int) + (r : Int) = (x : Int) := by omega
    have t2w : IntKind.i64.wrap (x : Int) = (x : Int) := by rw [IntKind.wrap_i64]; omega
    have t3 : (n : Int) - (x : Int) = (k : Int) := by omega
    have t3w : IntKind.i64.wrap (k : Int) = (k : Int) := by rw [IntKind.wrap_i64]; omega
    have k1 : (0 : Int) ≤ (k : Int) := by omega
    have k2 : (k : Int) ≤ (c2 : Int) := by omega
    have hkn : k < n := by omega
    clear hr hx hk
    go_wp2_with fail
    obtain ⟨x1, hop1, hx1⟩ := HCUT.out k hkn
    have HRD := read_any w2 a2 k c2 (F.take k) (Src.take8 HR2.out.low8 (by have := HN.out; omega) c2) (by rw [List.length_take]; have := HN.out; omega) (fun x hx => HBY.out x (List.mem_of_mem_take hx)) (by omega) (by omega) (HX.out.kept HK2.out (fun f => f)) (fun L hL => by rw [hop1] at hL; cases hL)
    rw [rd8_bad hop1] at HRD
    have hxe : ((x1 : Int) == 0) = false := by simp; omega
    have hxn : ((x1 : Int) != 0) = true := by simp; omega
    refine HRD.mono ?_
    intro e w3 h3
    obtain rfl := h3.1 x1 rfl
    have HK3 : Hid (Same w2 w3) := hid h3.2.2
    clear HRD h3 hop1 hx1 HCUT
    go_wp2_with (first | (at_builtin; refine wpList_append_any _ rfl (.tmp 62) (.tmp 63) rfl (.slice none 0 0) [] rfl (World.ownsRow_nil _ 0 5 1) _ _ [80] rfl (fun n c e => by cases e) (src_lit w3 [80] 1 rfl) (by decide) ?_; intro v4 w4 hr4 hg4 ho4; have HR4 : Hid (Row w4 v4 [80]) := hr4; have HK4 : Hid (Same w3 w4) := hid ((show Same w3 (w3.alloc (.cells #[.int .u8 80] 5)) from (Kept.refl _ _).alloc _).then ((Kept.refl (fun k => (Value.slice none 0 0).ownBlock = some k) _).grown hg4 (fun k e => .inl e)) (fun x hx e => by cases e)); have HN4 : Hid (∀ k, v4.ownBlock = some k → w3.heap.size ≤ k) := hid (fun k e => by rcases ho4 with h | h <;> rw [h] at e; cases e; simp only [Option.some.injEq] at e; simp at e; omega); clear hr4 hg4 ho4) | (at_builtin; refine wpList_append_any _ rfl (.tmp 65) (.tmp 66) rfl _ [80] rfl HR4.out _ _ F rfl (nil8 HR2.out) ((Src.ofRow HR2.out).kept (Same.trans HK3.out HK4.out) (fun _ _ _ f => f)) (by have := HN.out; simp; omega) ?_; intro v5 w5 hr5 hg5 ho5; have HR5 : Hid (Row w5 v5 (80 :: F)) := hr5; have HK5 : Hid (Same w3 w5) := hid (HK4.out.then ((Kept.refl (fun k => v4.ownBlock = some k) _).grown hg5 (fun k e => .inl e)) (fun x hx e => by have := HN4.out x e; omega)); obtain ⟨a5, c5, hv5, hcap5, _⟩ := HR5.out.shape8; rw [List.length_cons, ← HN.out] at hv5 hcap5; subst hv5; clear hr5 hg5 ho5))
    have HK25 : Hid (Same W w5) := hid (Same.trans HK2.out (Same.trans HK3.out HK5.out))
    rcases HAH.out with hop2 | hop2
    all_goals
     have HRD := read_any w5 a5 (n + 1) c5 (80 :: F) HR5.out.low8 (by rw [List.length_cons, ← HN.out]) (fun x hx => by rcases List.mem_cons.1 hx with e | e; omega; exact HBY.out x e) hcap5 (by omega) (HX.out.kept HK25.out (fun f => f)) (fun L hL => by rw [hop2] at hL; cases hL)
     rw [rd8_bad hop2] at HRD
     refine HRD.mono ?_
     intro e w6 h6
     obtain rfl := h6.1 _ rfl
     have HK6 : Hid (Same W w6) := hid (Same.trans HK25.out h6.2.2)
     have HA := zawake_any w6 (HX.out.kept HK6.out (fun f => f)) (HT.out.kept HK6.out (fun f => f))
     clear HRD h6 hop2
     go_wp2_with fail
     refine HA.mono ?_
     rintro e w7 ⟨rfl, hk7⟩
     have HK7 : Hid (Same W w7) := hid (Same.trans HK6.out hk7)
     clear hk7 HA
     go_wp2_with fail
     go_ret
     exact ⟨rfl, HK7.out⟩
   ·have s1 : decide (m < 0) = true := by simp; omega
    have s2 : IntKind.i64.wrap (m + 1) = m + 1 := by rw [IntKind.wrap_i64]; have := HM.out; omega
    have s3 : IntKind.i64.wrap (c0 : Int) = (c0 : Int) := by rw [IntKind.wrap_i64]; omega
    obtain ⟨r, hr⟩ : ∃ r, r = c0 % n := ⟨_, rfl⟩
    have hrn : r < n := by rw [hr]; exact Nat.mod_lt _ (by omega)
    have t1 : Int.tmod (c0 : Int) (n : Int) = (r : Int) := by rw [hr]; rfl
    have t1' : (c0 : Int) % (n : Int) = (r : Int) := by rw [hr]; rfl
    obtain ⟨x, hx⟩ : ∃ x, x = 1 + r := ⟨_, rfl⟩
    obtain ⟨k, hk⟩ : ∃ k, k = n - x := ⟨_, rfl⟩
    have t2 : (1 : Int) + (r : Int) = (x : Int) := by omega
    have t2w : IntKind.i64.wrap (x : Int) = (x : Int) := by rw [IntKind.wrap_i64]; omega
    have t3 : (n : Int) - (x : Int) = (k : Int) := by omega
    have t3w : IntKind.i64.wrap (k : Int) = (k : Int) := by rw [IntKind.wrap_i64]; omega
    have k1 : (0 : Int) ≤ (k : Int) := by omega
    have k2 : (k : Int) ≤ (c2 : Int) := by omega
    have hkn : k < n := by omega
    clear hr hx hk
    go_wp2_with fail
    obtain ⟨x1, hop1, hx1⟩ := HCUT.out k hkn
    have HRD := read_any w2 a2 k c2 (F.take k) (Src.take8 HR2.out.low8 (by have := HN.out; omega) c2) (by rw [List.length_take]; have := HN.out; omega) (fun x hx => HBY.out x (List.mem_of_mem_take hx)) (by omega) (by omega) (HX.out.kept HK2.out (fun f => f)) (fun L hL => by rw [hop1] at hL; cases hL)
    rw [rd8_bad hop1] at HRD
    have hxe : ((x1 : Int) == 0) = false := by simp; omega
    have hxn : ((x1 : Int) != 0) = true := by simp; omega
    refine HRD.mono ?_
    intro e w3 h3
    obtain rfl := h3.1 x1 rfl
    have HK3 : Hid (Same w2 w3) := hid h3.2.2
    clear HRD h3 hop1 hx1 HCUT
    go_wp2_with (first | (at_builtin; refine wpList_append_any _ rfl (.tmp 62) (.tmp 63) rfl (.slice none 0 0) [] rfl (World.ownsRow_nil _ 0 5 1) _ _ [80] rfl (fun n c e => by cases e) (src_lit w3 [80] 1 rfl) (by decide) ?_; intro v4 w4 hr4 hg4 ho4; have HR4 : Hid (Row w4 v4 [80]) := hr4; have HK4 : Hid (Same w3 w4) := hid ((show Same w3 (w3.alloc (.cells #[.int .u8 80] 5)) from (Kept.refl _ _).alloc _).then ((Kept.refl (fun k => (Value.slice none 0 0).ownBlock = some k) _).grown hg4 (fun k e => .inl e)) (fun x hx e => by cases e)); have HN4 : Hid (∀ k, v4.ownBlock = some k → w3.heap.size ≤ k) := hid (fun k e => by rcases ho4 with h | h <;> rw [h] at e; cases e; simp only [Option.some.injEq] at e; simp at e; omega); clear hr4 hg4 ho4) | (at_builtin; refine wpList_append_any _ rfl (.tmp 65) (.tmp 66) rfl _ [80] rfl HR4.out _ _ F rfl (nil8 HR2.out) ((Src.ofRow HR2.out).kept (Same.trans HK3.out HK4.out) (fun _ _ _ f => f)) (by have := HN.out; simp; omega) ?_; intro v5 w5 hr5 hg5 ho5; have HR5 : Hid (Row w5 v5 (80 :: F)) := hr5; have HK5 : Hid (Same w3 w5) := hid (HK4.out.then ((Kept.refl (fun k => v4.ownBlock = some k) _).grown hg5 (fun k e => .inl e)) (fun x hx e => by have := HN4.out x e; omega)); obtain ⟨a5, c5, hv5, hcap5, _⟩ := HR5.out.shape8; rw [List.length_cons, ← HN.out] at hv5 hcap5; subst hv5; clear hr5 hg5 ho5))
    have HK25 : Hid (Same W w5) := hid (Same.trans HK2.out (Same.trans HK3.out HK5.out))
    rcases HAH.out with hop2 | hop2
    all_goals
     have HRD := read_any w5 a5 (n + 1) c5 (80 :: F) HR5.out.low8 (by rw [List.length_cons, ← HN.out]) (fun x hx => by rcases List.mem_cons.1 hx with e | e; omega; exact HBY.out x e) hcap5 (by omega) (HX.out.kept HK25.out (fun f => f)) (fun L hL => by rw [hop2] at hL; cases hL)
     rw [rd8_bad hop2] at HRD
     refine HRD.mono ?_
     intro e w6 h6
     obtain rfl := h6.1 _ rfl
     have HK6 : Hid (Same W w6) := hid (Same.trans HK25.out h6.2.2)
     have HA := zawake_any w6 (HX.out.kept HK6.out (fun f => f)) (HT.out.kept HK6.out (fun f => f))
     clear HRD h6 hop2
     go_wp2_with fail
     refine HA.mono ?_
     rintro e w7 ⟨rfl, hk7⟩
     have HK7 : Hid (Same W w7) := hid (Same.trans HK6.out hk7)
     clear hk7 HA
     go_wp2_with fail
     go_ret
     exact ⟨rfl, HK7.out⟩
  ·have HWr := zwrite_bad w1 a len cap E (HS.out.kept HK1.out (fun _ _ f => f)) (by omega) HC.out (HX.out.kept HK1.out (fun f => f)) hck
   obtain ⟨x, hx⟩ : ∃ x, x = chkE E len := ⟨_, rfl⟩
   rw [← hx] at HWr hck
   have hxn : ((x : Int) != 0) = true := by simp; omega
   clear hx hck
   go_wp2_with fail
   refine HWr.mono ?_
   rintro e w2 ⟨rfl, hk2⟩
   have HK2 : Hid (Same W w2) := hid (Same.trans HK1.out hk2)
   have HA := zawake_any w2 (HX.out.kept HK2.out (fun f => f)) (HT.out.kept HK2.out (fun f => f))
   clear hk2 HWr
   go_wp2_with fail
   refine HA.mono ?_
   rintro e w3 ⟨rfl, hk3⟩
   have HK3 : Hid (Same W w3) := hid (Same.trans HK2.out hk3)
   clear hk3 HA
   go_wp2_with fail
   go_ret
   exact ⟨rfl, HK3.out⟩

theorem zipCuts_all (a : Option Addr) (len cap : Nat) (E : Nat → En) (m : Int) (W : World) (he : Ents W (fun _ => True) a len E) (hc : len ≤ cap) (hr : len ≤ reachBytes) (hz : ∀ j, j < len → (E j).n.size ≤ reachBytes ∧ (E j).d.size ≤ reachBytes) (hm : (Lit.int .i64 m).wf = true) (hT : Tab W) (hx : Mxl W) :
  Calls Tryz.prog 7 #[.slice a len cap, .int .i64 m] W fun e w' => e = .returned (.bool true) ∧ Below W.heap.size W w' :=
 (zcuts_any a len cap E m W he hc hr hz hm hT hx).mono (fun _ _ h => ⟨h.1, h.2.bel⟩)

end Go.Proofs.YtljlmfnbeofmmaaGreatDoor
