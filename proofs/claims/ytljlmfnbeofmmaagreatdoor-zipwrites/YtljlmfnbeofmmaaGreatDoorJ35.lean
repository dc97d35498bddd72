/-
  Of the proof: parts ZpR, ZpS.
-/
import Derived.Deep.RegionHeld3
import Derived.Lib.AppendStr
import Derived.Test.YtljlmfnbeofmmaaGreatDoorJ33

namespace Go.Proofs.YtljlmfnbeofmmaaGreatDoor
open Go.RowKit

theorem str_cells (cs : List Nat) (h : ∀ b ∈ cs, b < 256) : Lib.strCells (txt cs) = cs.map byteV := by
 unfold Lib.strCells txt
 simp only [List.map_map]
 refine List.map_congr_left (fun b hb => ?_)
 have := h b hb
 simp only [Function.comp_apply, UInt8.toNat_ofNat', byteV]
 congr 1
 omega

theorem undrew8 {w w' : World} (h : Same w.drew w') : Same w w' := ⟨h.os, h.tape, h.output, h.size, h.block⟩

theorem wpList_append_str {ops : Array Oper} {rest : List Oper} {o : Oper} {a : Act} {Q : Exit → Act → World → Prop} (w : World) (hgd : o.guard = none) (s x : Operand)
  (ho : o.op = .call { callee := .builtin .append, args := #[s, x], argTypes := #[26, 9] })
  (w0 : World) (v : Value) (bs : List Nat) (hs : a.eval s = v) (hf : Fresh w0 w v bs) (cs : List Nat) (hx : a.eval x = .string (txt cs)) (hc : ∀ b ∈ cs, b < 256) (hlen : bs.length + cs.length ≤ 1000000000000)
  (h : ∀ v' w', Fresh w0 w' v' (bs ++ cs) → wpList Tryz.prog ops Q rest (a.put o.dst v') w') : wpList Tryz.prog ops Q (o :: rest) a w := by
 obtain ⟨i0, hi, hz0, hz1, hz2⟩ := info_parts Tryz.info8
 have hsz := txt_size cs
 have hown : w.ownsRow w0.heap.size 5 1 v bs.length (bs.map byteV) := by
  refine ⟨hf.row.1, ?_⟩
  rcases hf.row.2 with h1 | ⟨g, cap, cur, rfl, h0, h2⟩
  ·exact .inl h1
  ·exact .inr ⟨g, cap, cur, rfl, hf.new g rfl, h2⟩
 refine Lib.wpList_append_own_string (P := Tryz.prog) w hgd s x 26 9 ho w0.heap.size 5 i0 Tryz.underlying26 Tryz.underlying9 hi hz0 hz1 hz2 v bs.length (bs.map byteV) hs hown (txt cs) hx (by simp only [maxLen]; omega) (by omega) hf.kept.size ?_
 intro v' w' h1 h2 _
 refine h v' w' ⟨?_, hf.kept.grown h2 (fun k e => .inr (hf.new k e)), fun k e => (World.ownsRow.lt h1 k e).1⟩
 rw [str_cells cs hc, hsz, ← List.map_append] at h1
 have h3 : w'.ownsRow 0 5 1 v' (bs.length + cs.length) ((bs ++ cs).map byteV) := by
  refine ⟨h1.1, ?_⟩
  rcases h1.2 with h4 | ⟨g, cap, cur, h5, _, h6⟩
  ·exact .inl h4
  ·exact .inr ⟨g, cap, cur, h5, Nat.zero_le _, h6⟩
 show w'.ownsRow 0 5 1 v' (bs ++ cs).length ((bs ++ cs).map byteV)
 rw [List.length_append]
 exact h3

set_option maxRecDepth 100000 in
set_option maxHeartbeats 400000 in
theorem head_any (w : World) (m : Mk) (hm : MkOk m) (hnm : ∀ b ∈ m.name, b < 256) :
  Calls Tryz.prog 36 #[.agg (mkZ m)] w fun e w' => ∃ v', e = .returned v' ∧ Fresh w w' v' (hedB m) := by
 obtain ⟨W1, hW1⟩ : ∃ W, W = w.alloc (.cells #[.int .u16 (m.way : Nat), .int .u32 (m.sum : Nat), .int .u32 (m.packed : Nat), .int .u32 (m.size : Nat), .string (txt m.name)] 60) := ⟨_, rfl⟩
 obtain ⟨mb, hmb⟩ : ∃ b, b = w.heap.size := ⟨_, rfl⟩
 have HK1 : Hid (Same w W1) := hid (by rw [hW1]; exact (Kept.refl _ w).alloc _)
 have HL1 : Hid (LabBk W1 mb m) := hid (by rw [hW1, hmb]; exact Blk.new w _ _)
 have HM : Hid (MkOk m ∧ ∀ b ∈ m.name, b < 256) := hid ⟨hm, hnm⟩
 have H1 := fun wx => put32_any wx (.slice none 0 0) (fun _ => False) [] ⟨none, 0, rfl, fun h => absurd rfl h⟩ 67324752 rfl (by decide) (by simp)
 clear hm hnm
 unfold mkZ
 go_enter Tryz.func36, Tryz.ntmps36
 go_wp2_with fail
 rw [← hW1, ← hmb]
 clear hW1 hmb
 obtain ⟨c0, c1, c2, c3, c4⟩ := HL1.out.cells
 go_region_held3 (fun w' => w'.cell? ⟨mb, 0, none⟩ = some (.int .u16 (m.way : Nat)) ∧ w'.cell? ⟨mb, 1, none⟩ = some (.int .u32 (m.sum : Nat)) ∧ w'.cell? ⟨mb, 2, none⟩ = some (.int .u32 (m.packed : Nat)) ∧ w'.cell? ⟨mb, 3, none⟩ = some (.int .u32 (m.size : Nat)) ∧ w'.cell? ⟨mb, 4, none⟩ = some (.string (txt m.name)))
  (first
   | (go_split_ands; exact ⟨hf3.kept.cell (by assumption) (fun f => f), hf3.kept.cell (by assumption) (fun f => f), hf3.kept.cell (by assumption) (fun f => f), hf3.kept.cell (by assumption) (fun f => f), hf3.kept.cell (by assumption) (fun f => f)⟩)
   | (go_split_ands; exact ⟨hf2.kept.cell (by assumption) (fun f => f), hf2.kept.cell (by assumption) (fun f => f), hf2.kept.cell (by assumption) (fun f => f), hf2.kept.cell (by assumption) (fun f => f), hf2.kept.cell (by assumption) (fun f => f)⟩)
   | go_keep)
  (first
   | (go_at_call 74; refine (H1 _).mono ?_; rintro e w2 ⟨v2, rfl, hf2⟩)
   | (go_at_call 75; refine (layLabel_any _ v2 _ _ m (Src.kept (Src.ofRow hf2.row) (by first | exact Kept.refl (fun _ => False) _ | exact (Kept.refl (fun _ => False) _).drew | exact (Kept.refl (fun _ => False) _).drewN _) (fun _ _ _ f => f)) HM.out.1 (by simp [leOf_length])).mono ?_; rintro e w3 ⟨v3, rfl, hf3⟩))
 all_goals
  have HF3 : Hid (Fresh w w3 v3 (leOf 67324752 4 ++ labB m)) := hid ⟨by simpa using hf3.row, Same.trans HK1.out (Same.trans (by first | exact hf2.kept | exact undrew8 hf2.kept) hf3.kept), fun k e => Nat.le_trans (Same.trans HK1.out (by first | exact hf2.kept | exact undrew8 hf2.kept)).size (hf3.new k e)⟩
  have d4 : w3.cell? ⟨mb, 4, none⟩ = some (.string (txt m.name)) := by go_split_ands; assumption
  obtain ⟨a3, p3, hv3, _⟩ := HF3.out.row.shape
  generalize (leOf 67324752 4 ++ labB m).length = n3 at hv3
  subst hv3
  clear hf2 hf3 c0 c1 c2 c3 c4
  go_wp2_with (at_builtin; refine wpList_append_str _ rfl (.tmp 7) (.tmp 9) rfl w _ _ rfl HF3.out m.name rfl HM.out.2 (by have := HM.out.1.name; simp [leOf_length, labB]; omega) ?_)
  intro v4 w4 hf4
  have HF4 : Hid (Fresh w w4 v4 (hedB m)) := hid (by unfold hedB; rw [← List.append_assoc]; exact hf4)
  clear hf4
  go_wp2_with fail
  go_ret
  exact ⟨_, rfl, HF4.out⟩

end Go.Proofs.YtljlmfnbeofmmaaGreatDoor

namespace Go.Proofs.YtljlmfnbeofmmaaGreatDoor
open Go.RowKit

theorem Fresh.then8 {w w1 w2 : World} {v v' : Value} {bs cs : List Nat} (h : Fresh w w1 v bs) (h2 : Fresh w1 w2 v' cs) : Fresh w w2 v' cs :=
 ⟨h2.row, Same.trans h.kept h2.kept, fun k e => Nat.le_trans h.kept.size (h2.new k e)⟩

theorem Fresh.base8 {w w1 w2 : World} {v' : Value} {cs : List Nat} (h : Same w w1) (h2 : Fresh w1 w2 v' cs) : Fresh w w2 v' cs :=
 ⟨h2.row, Same.trans h h2.kept, fun k e => Nat.le_trans h.size (h2.new k e)⟩

theorem put16f (w wk : World) (v : Value) (bs : List Nat) (h : Fresh w wk v bs) (vs : List Nat) (n : Nat) (hn : n = vs.length) (hv : ∀ x ∈ vs, x < 65536) (hl : bs.length ≤ 10000000) (h1 : 1 ≤ n) (h2 : n ≤ 100) :
  Calls Tryz.prog 73 #[v, .slice (some ⟨wk.heap.size, 0, none⟩) n n] (wk.alloc (.cells (vs.map (fun x => Value.int .u16 (x : Nat))).toArray 58)) fun e w' => ∃ v', e = .returned v' ∧ Fresh w w' v' (bs ++ les 2 vs) := by
 have hk : Same wk (wk.alloc (.cells (vs.map (fun x => Value.int .u16 (x : Nat))).toArray 58)) := (Kept.refl _ wk).alloc _
 refine (put16s_any _ v _ bs wk.heap.size vs n hn ((Src.ofRow h.row).kept hk (fun _ _ _ f => f)) (nums_new .u16 wk vs 58) hv hl h2).mono ?_
 rintro e w' ⟨v', rfl, _, _, hf⟩
 exact ⟨v', rfl, Fresh.base8 (Same.trans h.kept hk) (hf h1)⟩

theorem put32f (w wk : World) (v : Value) (bs : List Nat) (h : Fresh w wk v bs) (vs : List Nat) (n : Nat) (hn : n = vs.length) (hv : ∀ x ∈ vs, x < 4294967296) (hl : bs.length ≤ 10000000) (h1 : 1 ≤ n) (h2 : n ≤ 100) :
  Calls Tryz.prog 76 #[v, .slice (some ⟨wk.heap.size, 0, none⟩) n n] (wk.alloc (.cells (vs.map (fun x => Value.int .u32 (x : Nat))).toArray 48)) fun e w' => ∃ v', e = .returned v' ∧ Fresh w w' v' (bs ++ les 4 vs) := by
 have hk : Same wk (wk.alloc (.cells (vs.map (fun x => Value.int .u32 (x : Nat))).toArray 48)) := (Kept.refl _ wk).alloc _
 refine (put32s_any _ v _ bs wk.heap.size vs n hn ((Src.ofRow h.row).kept hk (fun _ _ _ f => f)) (nums_new .u32 wk vs 48) hv hl h2).mono ?_
 rintro e w' ⟨v', rfl, _, _, hf⟩
 exact ⟨v', rfl, Fresh.base8 (Same.trans h.kept hk) (hf h1)⟩

theorem labB_len (m : Mk) : (labB m).length = 26 := by simp [labB, leOf_length]

theorem recB_is (m : Mk) (p : Nat) : leOf 33639248 4 ++ les 2 [20] ++ labB m ++ les 2 [0, 0, 0] ++ les 4 [0, p] ++ m.name = recB m p := by
 simp [les, recB]

set_option maxRecDepth 100000 in
set_option maxHeartbeats 400000 in
theorem record_any (w : World) (m : Mk) (p : Nat) (hm : MkOk m) (hnm : ∀ b ∈ m.name, b < 256) (hp : p < 4294967296) :
  Calls Tryz.prog 35 #[.agg (mkZ m), .int .i64 (p : Nat)] w fun e w' => ∃ v', e = .returned v' ∧ Fresh w w' v' (recB m p) := by
 obtain ⟨W1, hW1⟩ : ∃ W, W = w.alloc (.cells #[.int .u16 (m.way : Nat), .int .u32 (m.sum : Nat), .int .u32 (m.packed : Nat), .int .u32 (m.size : Nat), .string (txt m.name)] 60) := ⟨_, rfl⟩
 obtain ⟨mb, hmb⟩ : ∃ b, b = w.heap.size := ⟨_, rfl⟩
 have HK1 : Hid (Same w W1) := hid (by rw [hW1]; exact (Kept.refl _ w).alloc _)
 have HL1 : Hid (LabBk W1 mb m) := hid (by rw [hW1, hmb]; exact Blk.new w _ _)
 have HM : Hid (MkOk m ∧ (∀ b ∈ m.name, b < 256) ∧ p < 4294967296) := hid ⟨hm, hnm, hp⟩
 have hpw : IntKind.u32.wrap (p : Int) = (p : Int) := by rw [IntKind.wrap_u32]; omega
 have H1 := fun wx => put32_any wx (.slice none 0 0) (fun _ => False) [] ⟨none, 0, rfl, fun h => absurd rfl h⟩ 33639248 rfl (by decide) (by simp)
 clear hm hnm hp
 unfold mkZ
 go_enter Tryz.func35, Tryz.ntmps35
 go_wp2_with fail
 rw [← hW1, ← hmb]
 clear hW1 hmb
 refine (H1 _).mono ?_
 rintro e w2 ⟨v2, rfl, hf2⟩
 have HF2 : Hid (Fresh W1 w2 v2 (leOf 33639248 4)) := hid (by simpa using hf2)
 have H2 := put16f W1 w2 v2 _ HF2.out [20] 1 rfl (by decide) (by simp [leOf_length]) (by decide) (by decide)
 clear hf2 H1
 go_wp2_with fail
 refine H2.mono ?_
 rintro e w3 ⟨v3, rfl, hf3⟩
 have HF3 : Hid (Fresh W1 w3 v3 (leOf 33639248 4 ++ les 2 [20])) := hf3
 obtain ⟨c0, c1, c2, c3, c4⟩ := (HL1.out.kept hf3.kept).cells
 have H3 := layLabel_any w3 v3 _ _ m (Src.ofRow hf3.row) HM.out.1 (by simp [leOf_length, les_length])
 unfold mkZ at H3
 clear hf3 H2 HF2
 go_wp2_with fail
 refine H3.mono ?_
 rintro e w4 ⟨v4, rfl, hf4⟩
 have HF4 : Hid (Fresh W1 w4 v4 (leOf 33639248 4 ++ les 2 [20] ++ labB m)) := hid (HF3.out.then8 hf4)
 have H4 := put16f W1 w4 v4 _ HF4.out [0, 0, 0] 3 rfl (by decide) (by simp [leOf_length, les_length, labB_len]) (by decide) (by decide)
 clear hf4 H3 HF3 c0 c1 c2 c3 c4
 go_wp2_with fail
 refine H4.mono ?_
 rintro e w5 ⟨v5, rfl, hf5⟩
 have HF5 : Hid (Fresh W1 w5 v5 (leOf 33639248 4 ++ les 2 [20] ++ labB m ++ les 2 [0, 0, 0])) := hf5
 have H5 := put32f W1 w5 v5 _ HF5.out [0, p] 2 rfl (by intro x hx; have := HM.out.2.2; simp at hx; omega) (by simp [leOf_length, les_length, labB_len]) (by decide) (by decide)
 clear hf5 H4 HF4
 go_wp2_with fail
 refine H5.mono ?_
 rintro e w6 ⟨v6, rfl, hf6⟩
 have HF6 : Hid (Fresh w w6 v6 (leOf 33639248 4 ++ les 2 [20] ++ labB m ++ les 2 [0, 0, 0] ++ les 4 [0, p])) := hid (Fresh.base8 HK1.out hf6)
 obtain ⟨d0, d1, d2, d3, d4⟩ := (HL1.out.kept hf6.kept).cells
 obtain ⟨a6, p6, hv6, _⟩ := hf6.row.shape
 generalize (leOf 33639248 4 ++ les 2 [20] ++ labB m ++ les 2 [0, 0, 0] ++ les 4 [0, p]).length = n6 at hv6
 subst hv6
 clear hf6 H5 HF5 d0 d1 d2 d3
 go_wp2_with (at_builtin; refine wpList_append_str _ rfl (.tmp 20) (.tmp 22) rfl w _ _ rfl HF6.out m.name rfl HM.out.2.1 (by have := HM.out.1.name; simp [leOf_length, les_length, labB_len]; omega) ?_)
 intro v7 w7 hf7
 have HF7 : Hid (Fresh w w7 v7 (recB m p)) := hid (by rw [← recB_is]; exact hf7)
 clear hf7
 go_wp2_with fail
 go_ret
 exact ⟨_, rfl, HF7.out⟩

theorem endB_is (n long first : Nat) : leOf 101010256 4 ++ les 2 [0, 0, n, n] ++ les 4 [long, first] ++ les 2 [0] = endB n long first := by
 simp [les, endB]

set_option maxRecDepth 100000 in
set_option maxHeartbeats 400000 in
theorem endw_any (w : World) (n long first : Nat) (hn : n < 65536) (hl : long < 4294967296) (hf : first < 4294967296) :
  Calls Tryz.prog 38 #[.int .i64 (n : Nat), .int .i64 (long : Nat), .int .i64 (first : Nat)] w fun e w' => ∃ v', e = .returned v' ∧ Fresh w w' v' (endB n long first) := by
 have hnw : IntKind.u16.wrap (n : Int) = (n : Int) := by rw [IntKind.wrap_u16]; omega
 have hlw : IntKind.u32.wrap (long : Int) = (long : Int) := by rw [IntKind.wrap_u32]; omega
 have hfw : IntKind.u32.wrap (first : Int) = (first : Int) := by rw [IntKind.wrap_u32]; omega
 have H1 := put32_any w (.slice none 0 0) (fun _ => False) [] ⟨none, 0, rfl, fun h => absurd rfl h⟩ 101010256 rfl (by decide) (by simp)
 have HM : Hid (n < 65536 ∧ long < 4294967296 ∧ first < 4294967296) := hid ⟨hn, hl, hf⟩
 clear hn hl hf
 go_enter Tryz.func38, Tryz.ntmps38
 go_wp2_with fail
 refine H1.mono ?_
 rintro e w2 ⟨v2, rfl, hf2⟩
 have HF2 : Hid (Fresh w w2 v2 (leOf 101010256 4)) := hid (by simpa using hf2)
 have H2 := put16f w w2 v2 _ HF2.out [0, 0, n, n] 4 rfl (by intro x hx; have := HM.out; simp at hx; omega) (by simp [leOf_length]) (by decide) (by decide)
 clear hf2 H1
 go_wp2_with fail
 refine H2.mono ?_
 rintro e w3 ⟨v3, rfl, hf3⟩
 have HF3 : Hid (Fresh w w3 v3 (leOf 101010256 4 ++ les 2 [0, 0, n, n])) := hf3
 have H3 := put32f w w3 v3 _ HF3.out [long, first] 2 rfl (by intro x hx; have := HM.out; simp at hx; omega) (by simp [leOf_length, les_length]) (by decide) (by decide)
 clear hf3 H2 HF2
 go_wp2_with fail
 refine H3.mono ?_
 rintro e w4 ⟨v4, rfl, hf4⟩
 have HF4 : Hid (Fresh w w4 v4 (leOf 101010256 4 ++ les 2 [0, 0, n, n] ++ les 4 [long, first])) := hf4
 have H4 := put16f w w4 v4 _ HF4.out [0] 1 rfl (by decide) (by simp [leOf_length, les_length]) (by decide) (by decide)
 clear hf4 H3 HF3
 go_wp2_with fail
 refine H4.mono ?_
 rintro e w5 ⟨v5, rfl, hf5⟩
 have HF5 : Hid (Fresh w w5 v5 (endB n long first)) := hid (by rw [← endB_is]; exact hf5)
 clear hf5 H4 HF4
 go_wp2_with fail
 go_ret
 exact ⟨_, rfl, HF5.out⟩

end Go.Proofs.YtljlmfnbeofmmaaGreatDoor
