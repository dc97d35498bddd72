import Derived.Test.YtljlmfnbeofmmaaGreatDoorZpQ
import Derived.Deep.RegionHeld3
import Derived.Lib.AppendStr
namespace Go.Proofs.YtljlmfnbeofmmaaGreatDoor
open Go.RowKit

theorem str_cells (cs : List Nat) (h : ∀ b ∈ cs, b < 256) : Lib.strCells (txt cs) = cs.map byteV := by
 unfold Lib.strCells txt
 simp only [List.map_map]
 refine List.map_congr_left (fun b hb => ?_)
 have := h b hb
 simp only [Function.comp_apply, UInt8.toNat_ofNat', byteV]
 congr 1
 omega

theorem undrew8 {w w' : World} (h : Same w.drew w') : Same w w' := ⟨h.os, h.tape, h.output, h.size, h.block⟩

theorem wpList_append_str {ops : Array Oper} {rest : List Oper} {o : Oper} {a : Act} {Q : Exit → Act → World → Prop} (w : World) (hgd : o.guard = none) (s x : Operand)
  (ho : o.op = .call { callee := .builtin .append, args := #[s, x], argTypes := #[26, 9] })
  (w0 : World) (v : Value) (bs : List Nat) (hs : a.eval s = v) (hf : Fresh w0 w v bs) (cs : List Nat) (hx : a.eval x = .string (txt cs)) (hc : ∀ b ∈ cs, b < 256) (hlen : bs.length + cs.length ≤ 1000000000000)
  (h : ∀ v' w', Fresh w0 w' v' (bs ++ cs) → wpList Tryz.prog ops Q rest (a.put o.dst v') w') : wpList Tryz.prog ops Q (o :: rest) a w := by
 obtain ⟨i0, hi, hz0, hz1, hz2⟩ := info_parts Tryz.info8
 have hsz := txt_size cs
 have hown : w.ownsRow w0.heap.size 5 1 v bs.length (bs.map byteV) := by
  refine ⟨hf.row.1, ?_⟩
  rcases hf.row.2 with h1 | ⟨g, cap, cur, rfl, h0, h2⟩
  ·exact .inl h1
  ·exact .inr ⟨g, cap, cur, rfl, hf.new g rfl, h2⟩
 refine Lib.wpList_append_own_string (P := Tryz.prog) w hgd s x 26 9 ho w0.heap.size 5 i0 Tryz.underlying26 Tryz.underlying9 hi hz0 hz1 hz2 v bs.length (bs.map byteV) hs hown (txt cs) hx (by simp only [maxLen]; omega) (by omega) hf.kept.size ?_
 intro v' w' h1 h2 _
 refine h v' w' ⟨?_, hf.kept.grown h2 (fun k e => .inr (hf.new k e)), fun k e => (World.ownsRow.lt h1 k e).1⟩
 rw [str_cells cs hc, hsz, ← List.map_append] at h1
 have h3 : w'.ownsRow 0 5 1 v' (bs.length + cs.length) ((bs ++ cs).map byteV) := by
  refine ⟨h1.1, ?_⟩
  rcases h1.2 with h4 | ⟨g, cap, cur, h5, _, h6⟩
  ·exact .inl h4
  ·exact .inr ⟨g, cap, cur, h5, Nat.zero_le _, h6⟩
 show w'.ownsRow 0 5 1 v' (bs ++ cs).length ((bs ++ cs).map byteV)
 rw [List.length_append]
 exact h3

set_option maxRecDepth 100000 in
set_option maxHeartbeats 400000 in
theorem head_any (w : World) (m : Mk) (hm : MkOk m) (hnm : ∀ b ∈ m.name, b < 256) :
  Calls Tryz.prog 36 #[.agg (mkZ m)] w fun e w' => ∃ v', e = .returned v' ∧ Fresh w w' v' (hedB m) := by
 obtain ⟨W1, hW1⟩ : ∃ W, W = w.alloc (.cells #[.int .u16 (m.way : Nat), .int .u32 (m.sum : Nat), .int .u32 (m.packed : Nat), .int .u32 (m.size : Nat), .string (txt m.name)] 60) := ⟨_, rfl⟩
 obtain ⟨mb, hmb⟩ : ∃ b, b = w.heap.size := ⟨_, rfl⟩
 have HK1 : Hid (Same w W1) := hid (by rw [hW1]; exact (Kept.refl _ w).alloc _)
 have HL1 : Hid (LabBk W1 mb m) := hid (by rw [hW1, hmb]; exact Blk.new w _ _)
 have HM : Hid (MkOk m ∧ ∀ b ∈ m.name, b < 256) := hid ⟨hm, hnm⟩
 have H1 := fun wx => put32_any wx (.slice none 0 0) (fun _ => False) [] ⟨none, 0, rfl, fun h => absurd rfl h⟩ 67324752 rfl (by decide) (by simp)
 clear hm hnm
 unfold mkZ
 go_enter Tryz.func36, Tryz.ntmps36
 go_wp2_with fail
 rw [← hW1, ← hmb]
 clear hW1 hmb
 obtain ⟨c0, c1, c2, c3, c4⟩ := HL1.out.cells
 go_region_held3 (fun w' => w'.cell? ⟨mb, 0, none⟩ = some (.int .u16 (m.way : Nat)) ∧ w'.cell? ⟨mb, 1, none⟩ = some (.int .u32 (m.sum : Nat)) ∧ w'.cell? ⟨mb, 2, none⟩ = some (.int .u32 (m.packed : Nat)) ∧ w'.cell? ⟨mb, 3, none⟩ = some (.int .u32 (m.size : Nat)) ∧ w'.cell? ⟨mb, 4, none⟩ = some (.string (txt m.name)))
  (first
   | (go_split_ands; exact ⟨hf3.kept.cell (by assumption) (fun f => f), hf3.kept.cell (by assumption) (fun f => f), hf3.kept.cell (by assumption) (fun f => f), hf3.kept.cell (by assumption) (fun f => f), hf3.kept.cell (by assumption) (fun f => f)⟩)
   | (go_split_ands; exact ⟨hf2.kept.cell (by assumption) (fun f => f), hf2.kept.cell (by assumption) (fun f => f), hf2.kept.cell (by assumption) (fun f => f), hf2.kept.cell (by assumption) (fun f => f), hf2.kept.cell (by assumption) (fun f => f)⟩)
   | go_keep)
  (first
   | (go_at_call 74; refine (H1 _).mono ?_; rintro e w2 ⟨v2, rfl, hf2⟩)
   | (go_at_call 75; refine (layLabel_any _ v2 _ _ m (Src.kept (Src.ofRow hf2.row) (by first | exact Kept.refl (fun _ => False) _ | exact (Kept.refl (fun _ => False) _).drew | exact (Kept.refl (fun _ => False) _).drewN _) (fun _ _ _ f => f)) HM.out.1 (by simp [leOf_length])).mono ?_; rintro e w3 ⟨v3, rfl, hf3⟩))
 all_goals
  have HF3 : Hid (Fresh w w3 v3 (leOf 67324752 4 ++ labB m)) := hid ⟨by simpa using hf3.row, Same.trans HK1.out (Same.trans (by first | exact hf2.kept | exact undrew8 hf2.kept) hf3.kept), fun k e => Nat.le_trans (Same.trans HK1.out (by first | exact hf2.kept | exact undrew8 hf2.kept)).size (hf3.new k e)⟩
  have d4 : w3.cell? ⟨mb, 4, none⟩ = some (.string (txt m.name)) := by go_split_ands; assumption
  obtain ⟨a3, p3, hv3, _⟩ := HF3.out.row.shape
  generalize (leOf 67324752 4 ++ labB m).length = n3 at hv3
  subst hv3
  clear hf2 hf3 c0 c1 c2 c3 c4
  go_wp2_with (at_builtin; refine wpList_append_str _ rfl (.tmp 7) (.tmp 9) rfl w _ _ rfl HF3.out m.name rfl HM.out.2 (by have := HM.out.1.name; simp [leOf_length, labB]; omega) ?_)
  intro v4 w4 hf4
  have HF4 : Hid (Fresh w w4 v4 (hedB m)) := hid (by unfold hedB; rw [← List.append_assoc]; exact hf4)
  clear hf4
  go_wp2_with fail
  go_ret
  exact ⟨_, rfl, HF4.out⟩

end Go.Proofs.YtljlmfnbeofmmaaGreatDoor
