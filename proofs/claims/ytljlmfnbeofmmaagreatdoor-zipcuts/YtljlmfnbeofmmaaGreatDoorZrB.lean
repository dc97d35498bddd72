import Derived.Test.YtljlmfnbeofmmaaGreatDoorZrA
import Derived.Test.YtljlmfnbeofmmaaGreatDoorZrM
import Derived.Test.YtljlmfnbeofmmaaGreatDoorZqL
import Derived.Test.YtljlmfnbeofmmaaGreatDoorLAwake
namespace Go.Proofs.YtljlmfnbeofmmaaGreatDoor
open Go.RowKit

theorem Row.low8 {w : World} {v : Value} {bs : List Nat} (h : Row w v bs) : Src w (fun k => k < w.heap.size) v bs := (Src.ofRow h).mono (fun _ e => (World.ownsRow.lt h _ e).2)

theorem Row.shape8 {w : World} {v : Value} {bs : List Nat} (h : Row w v bs) : ∃ a c, v = .slice a bs.length c ∧ bs.length ≤ c ∧ (bs ≠ [] → ∃ g, a = some ⟨g, 0, none⟩ ∧ ∀ j (hj : j < bs.length), w.cell? ⟨g, j, none⟩ = some (.int .u8 (bs[j] : Nat))) := by
 obtain ⟨ao, cap, e, hc⟩ := Src.ofRow h
 have h2 := h.2
 rcases h2 with ⟨e2, h3⟩ | ⟨g, cap2, cur, e2, _, _, h4, _⟩
 ·refine ⟨none, 0, by rw [e2, h3], by omega, fun hb => absurd (List.eq_nil_of_length_eq_zero h3) hb⟩
 ·refine ⟨some ⟨g, 0, none⟩, cap2, e2, h4, fun hb => ⟨g, rfl, fun j hj => ?_⟩⟩
  obtain ⟨b, o, e5, _, h6⟩ := hc hb
  rw [e2] at e
  simp only [Value.slice.injEq] at e
  rw [e5] at e
  simp only [Option.some.injEq, Addr.mk.injEq, and_true] at e
  obtain ⟨⟨rfl, rfl⟩, _⟩ := e
  have := h6 j hj
  simpa using this

theorem ents_lit (w : World) (x0 x1 x2 x3 : ByteArray) : Ents (w.alloc (.cells #[.string x0, .string x1, .string x2, .string x3] 34)) (fun _ => True) (some ⟨w.heap.size, 0, none⟩) 2 (fun j => if j = 0 then ⟨x0, x1⟩ else ⟨x2, x3⟩) := by
 have hb := Blk.new w #[.string x0, .string x1, .string x2, .string x3] 34
 intro j hj
 refine ⟨w.heap.size, 0, rfl, trivial, ?_⟩
 match j, hj with
 | 0, _ => exact ⟨hb.cell 0, hb.cell 1⟩
 | 1, _ => exact ⟨hb.cell 2, hb.cell 3⟩

theorem leOf_byte (v n : Nat) : ∀ b ∈ leOf v n, b < 256 := by
 induction n generalizing v with
 | zero => intro b hb; simp [leOf] at hb
 | succ n ih =>
  intro b hb
  rw [leOf] at hb
  rcases List.mem_append.1 hb with hb | hb
  ·exact ih _ b hb
  ·simp only [List.mem_cons, List.not_mem_nil, or_false] at hb
   omega

theorem labB_byte (m : Mk) : ∀ b ∈ labB m, b < 256 := by
 intro b hb
 unfold labB at hb
 simp only [List.mem_append] at hb
 rcases hb with h | h | h | h | h | h | h | h | h | h <;> exact leOf_byte _ _ b h

theorem filB_byte {L : List It} (h : ∀ x ∈ L, (∀ b ∈ x.lab.name, b < 256) ∧ ∀ b ∈ x.bytes, b < 256) : ∀ b ∈ filB L, b < 256 := by
 have hp : ∀ b ∈ piesB L, b < 256 := by
  intro b hb
  obtain ⟨x, hx, hb⟩ := List.mem_flatMap.1 hb
  unfold pieB hedB at hb
  simp only [List.mem_append] at hb
  rcases hb with (h1 | h1 | h1) | h1
  ·exact leOf_byte _ _ b h1
  ·exact labB_byte _ b h1
  ·exact (h x hx).1 b h1
  ·exact (h x hx).2 b h1
 have hr : ∀ (at' : Nat) (L : List It), (∀ x ∈ L, (∀ b ∈ x.lab.name, b < 256) ∧ ∀ b ∈ x.bytes, b < 256) → ∀ b ∈ recsB at' L, b < 256 := by
  intro at' L
  induction L generalizing at' with
  | nil => intro _ b hb; simp [recsB] at hb
  | cons x r ih =>
   intro h b hb
   rw [recsB] at hb
   rcases List.mem_append.1 hb with hb | hb
   ·unfold recB at hb
    simp only [List.mem_append] at hb
    rcases hb with h1 | h1 | h1 | h1 | h1 | h1 | h1 | h1 | h1
    ·exact leOf_byte _ _ b h1
    ·exact leOf_byte _ _ b h1
    ·exact labB_byte _ b h1
    ·exact leOf_byte _ _ b h1
    ·exact leOf_byte _ _ b h1
    ·exact leOf_byte _ _ b h1
    ·exact leOf_byte _ _ b h1
    ·exact leOf_byte _ _ b h1
    ·exact (h x (by simp)).1 b h1
   ·exact ih _ (fun y hy => h y (by simp [hy])) b hb
 intro b hb
 unfold filB at hb
 simp only [List.mem_append] at hb
 rcases hb with h1 | h1 | h1
 ·exact hp b h1
 ·exact hr 0 L h b h1
 ·unfold endB at h1
  simp only [List.mem_append] at h1
  rcases h1 with h | h | h | h | h | h | h | h <;> exact leOf_byte _ _ b h

theorem pdef_byte {data bs : List Nat} (h : PDef data bs) (hb : ∀ b ∈ data, b < 256) (hl : data.length ≤ 16384) : ∀ b ∈ bs, b < 256 := by
 obtain ⟨x2, x3, rfl, h2, h3⟩ := h
 have hs : ∀ b ∈ storeB data, b < 256 := by
  intro b hx
  unfold storeB at hx
  simp only [List.mem_append, List.mem_cons, List.not_mem_nil, or_false] at hx
  rcases hx with (rfl | rfl | rfl | rfl | rfl) | h
  ·omega
  ·omega
  ·omega
  ·omega
  ·omega
  ·exact hb b h
 have hbest : ∀ a c : List Nat, (∀ b ∈ a, b < 256) → (∀ b ∈ c, b < 256) → ∀ b ∈ bestL a c, b < 256 := by
  intro a c ha hc b hx
  unfold bestL at hx
  split at hx
  ·exact hc b hx
  ·exact ha b hx
 exact hbest _ _ (hbest _ _ hs h2.2) h3.1.2

theorem its_byte {E : Nat → En} {len : Nat} {L : List It} (h : ItsOf E len L) (hc : chkE E len = 0) : ∀ b ∈ filB L, b < 256 := by
 refine filB_byte (fun x hx => ?_)
 obtain ⟨j, hj, rfl⟩ := List.getElem_of_mem hx
 obtain ⟨bs, hp, e⟩ := h.2 j L[j] (List.getElem?_eq_getElem hj)
 have h9 := (chkE_ok hc).2 j (by rw [← h.1]; exact hj)
 rw [e]
 refine ⟨fun b hb => sb_lt _ b hb, fun b hb => ?_⟩
 have hb : b ∈ bodZ (E j) bs := hb
 unfold bodZ at hb
 split at hb
 ·exact pdef_byte hp (sb_lt _) (by rw [sb_size]; omega) b hb
 ·exact sb_lt _ b hb

set_option maxRecDepth 100000 in
set_option maxHeartbeats 400000 in
theorem zawake_any (w : World) (hx : Mxl w) (hT : Tab w) :
  Calls Tryz.prog 9 #[] w fun e w' => e = .returned (.bool true) ∧ Same w w' := by
 have HX : Hid (Mxl w) := hx
 have HT : Hid (Tab w) := hT
 have H1 := zwrite_good w none 0 0 exE (fun j hj => by omega) (Nat.le_refl _) hx hT rfl
 clear hx hT
 go_enter Tryz.func9, Tryz.ntmps9
 go_wp2_with fail
 refine H1.mono ?_
 rintro e w1 ⟨v1, L1, rfl, hf1, hi1⟩
 rw [ex_nil hi1] at hf1
 obtain ⟨a1, c1, hv1, _, hbz⟩ := hf1.row.shape8
 obtain ⟨g1, ha1, hb1⟩ := hbz (by decide +kernel)
 clear hbz
 subst ha1
 have hl1 : (endB 0 0 0).length = 22 := rfl
 rw [hl1] at hv1
 subst hv1
 have HR1 : Hid (Row w1 (.slice (some ⟨g1, 0, none⟩) 22 c1) (endB 0 0 0)) := hid hf1.row
 have HC1 : Hid (w1.cell? ⟨g1, 0, none⟩ = some (.int .u8 80)) := hid (hb1 0 (by decide +kernel))
 have HK1 : Hid (Same w w1) := hid hf1.kept
 obtain ⟨W2, hW2⟩ : ∃ W, W = w1.alloc (.cells #[.string ⟨#[97]⟩, .string ⟨#[111, 110, 101]⟩, .string ⟨#[98, 47, 99]⟩, .string ⟨#[116, 119, 111]⟩] 34) := ⟨_, rfl⟩
 have HKW2 : Hid (Same w1 W2) := hid (by rw [hW2]; exact (Kept.refl _ w1).alloc _)
 have H2 := zwrite_good W2 (some ⟨w1.heap.size, 0, none⟩) 2 2 exE (by rw [hW2]; exact ents_lit w1 _ _ _ _) (Nat.le_refl _) (HX.out.kept (Same.trans HK1.out HKW2.out) (fun f => f)) (HT.out.kept (Same.trans HK1.out HKW2.out) (fun f => f)) exE_chk
 clear H1 hf1 hi1 hb1 hl1
 go_wp2_with fail
 rw [← hW2]
 clear hW2
 refine H2.mono ?_
 rintro e w3 ⟨v3, L3, rfl, hf3, hi3⟩
 obtain ⟨hz3, ho3, hd3⟩ := ex_file hi3
 have hby3 := its_byte hi3 exE_chk
 have hsm3 := its_small hi3 exE_chk
 obtain ⟨F, hF⟩ : ∃ F, F = filB L3 := ⟨_, rfl⟩
 rw [← hF] at hf3 ho3 hd3 hby3 hsm3
 obtain ⟨a3, c3, hv3, hcap3, _⟩ := hf3.row.shape8
 obtain ⟨n3, hn3⟩ : ∃ n, n = F.length := ⟨_, rfl⟩
 rw [← hn3] at hv3 hcap3 hsm3
 subst hv3
 have HK3 : Hid (Same w1 w3) := hid (Same.trans HKW2.out hf3.kept)
 have H3 := read_any w3 a3 n3 c3 F hf3.row.low8 hn3 hby3 hcap3 (by omega) (HX.out.kept (Same.trans HK1.out HK3.out) (fun f => f)) (fun L hL => UnpOk.zero w3 L (by rw [ho3] at hL; simp only [Except.ok.injEq] at hL; rw [← hL]; exact hz3))
 rw [hd3] at H3
 clear H2 hf3 hi3 hz3 ho3 hd3 hby3 hcap3 hF hn3
 go_wp2_with fail
 refine H3.mono ?_
 intro e w4 h4
 obtain ⟨a4, n4, c4, rfl, hr4, hn4⟩ := h4.2.1 _ rfl
 have hn4 : n4 = 2 := hn4
 subst hn4
 have HK4 : Hid (Same w1 w4) := hid (Same.trans HK3.out h4.2.2)
 have HR4 : Hid (RowC w3.heap.size 34 2 enE w4 (.slice a4 2 c4) ([(sb a8, sb one8), (sb bc8, sb two8)].map enOf)) := hr4
 obtain ⟨W5, hW5⟩ : ∃ W, W = w4.alloc (.cells #[.string ⟨#[97]⟩, .string ⟨#[]⟩, .string ⟨#[97]⟩, .string ⟨#[]⟩] 34) := ⟨_, rfl⟩
 have HKW5 : Hid (Same w1 W5) := hid (Same.trans HK4.out (by rw [hW5]; exact (Kept.refl _ w4).alloc _))
 have HKW45 : Hid (Same w4 W5) := hid (by rw [hW5]; exact (Kept.refl _ w4).alloc _)
 have hE5 : (fun j => if j = 0 then (⟨⟨#[97]⟩, ⟨#[]⟩⟩ : En) else ⟨⟨#[97]⟩, ⟨#[]⟩⟩) = twE := by funext j; unfold twE a8 nil8b; split <;> rfl
 have H5 := zwrite_bad W5 (some ⟨w4.heap.size, 0, none⟩) 2 2 twE (by rw [hW5, ← hE5]; exact ents_lit w4 _ _ _ _) (by decide) (Nat.le_refl _) (HX.out.kept (Same.trans HK1.out HKW5.out) (fun f => f)) (by rw [twE_chk]; decide)
 rw [twE_chk] at H5
 clear H3 h4 hr4 hE5
 go_wp2_with fail
 rw [← hW5]
 clear hW5
 refine H5.mono ?_
 rintro e w6 ⟨rfl, hk6⟩
 have HK6 : Hid (Same w1 w6) := hid (Same.trans HKW5.out hk6)
 have HK46 : Hid (Same w4 w6) := hid (Same.trans HKW45.out hk6)
 have H6 := zlent_any w6 _ _ (endB 0 0 0) (Src.ofRow (HR1.out.kept HK6.out (fun _ _ f => f))) (by decide +kernel)
 rw [show (endB 0 0 0).length = 22 from rfl] at H6
 clear H5 hk6
 go_wp2_with fail
 refine H6.mono ?_
 rintro e w7 ⟨g7, rfl, hr7, hk7, hn7⟩
 have HK7 : Hid (Same w6 w7) := hk7
 have HR7 : Hid (Row w7 (.slice (some ⟨g7, 0, none⟩) 22 23) (endB 0 0 0)) := hid (Row.cut hr7)
 have HN7 : Hid (w6.heap.size ≤ g7) := hn7
 clear H6 hr7 hk7 hn7
 go_wp2_with (at_builtin; refine wpList_append_any _ rfl (.tmp 36) (.tmp 37) rfl _ (endB 0 0 0) rfl (HR7.out.kept (show Same _ _ from (Kept.refl _ _).alloc _) (fun _ _ f => f)) _ _ [0] rfl (fun n c e => by cases e) (src_lit w7 [0] 1 rfl) (by decide +kernel) ?_; intro v8 w8 hr8 hg8 ho8; have HR8 : Hid (Row w8 v8 (endB 0 0 0 ++ [0])) := hr8; have HK8 : Hid (Same w6 w8) := hid ((Same.trans HK7.out (show Same w7 (w7.alloc (.cells #[.int .u8 0] 5)) from (Kept.refl _ _).alloc _)).then ((Kept.refl (fun k => (Value.slice (some ⟨g7, 0, none⟩) 22 23).ownBlock = some k) _).grown hg8 (fun k e => .inl e)) (fun x hx e => by have := HN7.out; simp only [Value.ownBlock, Option.some.injEq] at e; omega)); obtain ⟨a8', c8, hv8, hcap8, _⟩ := hr8.shape8; have hv8 : v8 = .slice a8' 23 c8 := hv8; have hcap8 : 23 ≤ c8 := hcap8; subst hv8; clear hr8 hg8 ho8)
 have H9 := list_any w8 a8' 23 c8 (endB 0 0 0 ++ [0]) HR8.out.low8 rfl (by decide +kernel) hcap8 (by decide) (HX.out.kept (Same.trans HK1.out (Same.trans HK6.out HK8.out)) (fun f => f))
 rw [ex_bad] at H9
 refine H9.mono ?_
 intro e w9 h9
 obtain rfl := h9.1 81 rfl
 have HK9 : Hid (Same w6 w9) := hid (Same.trans HK8.out h9.2.2)
 clear H9 h9 hcap8
 have b0 : w9.cell? ⟨g1, 0, none⟩ = some (.int .u8 80) := (Same.trans HK6.out HK9.out).cell HC1.out (fun f => f)
 obtain ⟨W10, hW10⟩ : ∃ W, W = w9.alloc (.cells #[.string ⟨#[97]⟩, .string ⟨#[111, 110, 101]⟩, .string ⟨#[98, 47, 99]⟩, .string ⟨#[116, 119, 111]⟩] 34) := ⟨_, rfl⟩
 have HKW10 : Hid (Same w9 W10) := hid (by rw [hW10]; exact (Kept.refl _ w9).alloc _)
 have hrow10 := HR4.out.kept (Same.trans HK46.out (Same.trans HK9.out HKW10.out)) (fun _ _ f => f)
 have hE10 : ∀ j, j < 2 → (([(sb a8, sb one8), (sb bc8, sb two8)].map enOf).getD j default) = exE j := by
  intro j hj
  match j, hj with
  | 0, _ => show enOf (sb a8, sb one8) = _; unfold enOf; simp only [txt_sb]; rfl
  | 1, _ => show enOf (sb bc8, sb two8) = _; unfold enOf; simp only [txt_sb]; rfl
 have hen10 : Ents W10 (fun _ => True) a4 2 exE := by
  intro j hj
  obtain ⟨b, o, h1, h2, h3, h4⟩ := Ents.ofRow hrow10 rfl j hj
  exact ⟨b, o, h1, h2, by rw [← hE10 j hj]; exact h3, by rw [← hE10 j hj]; exact h4⟩
 have H10 := esame_true W10 a4 (some ⟨w9.heap.size, 0, none⟩) 2 c4 2 exE _ _ hen10 (by rw [hW10]; exact ents_lit w9 _ _ _ _) (by decide)
 clear hrow10 hE10 hen10
 go_wp2_with fail
 rw [← hW10]
 clear hW10
 refine H10.mono ?_
 rintro e w11 ⟨rfl, hk11⟩
 have HK11 : Hid (Same w6 w11) := hid (Same.trans HK9.out (Same.trans HKW10.out hk11))
 have H11 := name_any w11 ⟨#[97, 47, 98, 46, 116, 120, 116]⟩ (HX.out.kept (Same.trans HK1.out (Same.trans HK6.out HK11.out)) (fun f => f))
 rw [show nam8 (sb ⟨#[97, 47, 98, 46, 116, 120, 116]⟩) = true by decide +kernel] at H11
 clear H10 hk11
 go_wp2_with fail
 refine H11.mono ?_
 rintro e w12 ⟨rfl, hk12⟩
 have HK12 : Hid (Same w6 w12) := hid (Same.trans HK11.out hk12)
 have H12 := name_any w12 ⟨#[97, 47, 47, 98]⟩ (HX.out.kept (Same.trans HK1.out (Same.trans HK6.out HK12.out)) (fun f => f))
 rw [show nam8 (sb ⟨#[97, 47, 47, 98]⟩) = false by decide +kernel] at H12
 clear H11 hk12
 go_wp2_with fail
 refine H12.mono ?_
 rintro e w13 ⟨rfl, hk13⟩
 have HK13 : Hid (Same w w13) := hid (Same.trans HK1.out (Same.trans HK6.out (Same.trans HK12.out hk13)))
 clear H12 hk13
 go_wp2_with fail
 go_ret
 exact ⟨rfl, HK13.out⟩

end Go.Proofs.YtljlmfnbeofmmaaGreatDoor
