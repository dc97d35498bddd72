/-
  Layer 19: a field laid, and made nothing.
-/
import Derived.Test.YtaefgnakdadgeaaWiC
import Derived.Test.YtaefgnakdadgeaaStepT
namespace Go.Proofs.Ytaefgnakdadgeaa
open Go.RowKit

/-- A field's bytes. -/
def layF (cs : List Cel) : Fd → List Nat
  | .num i => match cs[i]? with
    | some (.n x) => leOf x.toNat 4
    | _ => []
  | .txt i _ => match cs[i]? with
    | some (.s t) => leOf t.size 2 ++ sb t
    | _ => []

/-- The cells when a field is nothing. -/
def clrF (cs : List Cel) : Fd → List Cel
  | .num i => cs.set i (.n 0)
  | .txt i _ => cs.set i (.s ⟨#[]⟩)

theorem undrew19 {w w' : World} (h : Same w.drew w') : Same w w' := ⟨h.os, h.tape, h.output, h.size, h.block⟩

set_option maxRecDepth 100000 in
set_option maxHeartbeats 400000 in
theorem nlay_any (w : World) (p i x : Nat) (hc : w.cell? ⟨p, i, none⟩ = some (.int .i64 (x : Nat))) (hx : x < 4294967296) (v : Value) (I : Nat → Prop) (bs : List Nat) (hs : Src w I v bs) (hb : bs.length ≤ 1000000) :
    Calls Try.prog 81 #[.agg #[.pointer (some ⟨p, i, none⟩)], v] w fun e w' => ∃ v', e = .returned v' ∧ Fresh w w' v' (bs ++ leOf x 4) := by
  obtain ⟨W1, hW1⟩ : ∃ W, W = w.alloc (.cells #[.pointer (some ⟨p, i, none⟩)] 79) := ⟨_, rfl⟩
  obtain ⟨xb, hxb⟩ : ∃ b, b = w.heap.size := ⟨_, rfl⟩
  have HK : Hid (Same w W1) := hid (by rw [hW1]; exact (Kept.refl _ w).alloc _)
  have HB : Hid (Blk W1 xb #[.pointer (some ⟨p, i, none⟩)] 79) := hid (by rw [hW1, hxb]; exact Blk.new w _ _)
  have c1 := HK.out.cell hc (fun f => f)
  have b0 := HB.out.cell 0
  simp at b0
  obtain ⟨ao, cap, hv, _⟩ := id hs
  subst hv
  have HP := put32_any (X := (x : Nat)) W1 _ I bs (hs.kept HK.out (fun _ _ _ f => f)) x rfl hx (by omega)
  have hxw : IntKind.u32.wrap (x : Int) = (x : Int) := by rw [IntKind.wrap_u32]; omega
  obtain ⟨N, hN⟩ : ∃ N, N = bs.length := ⟨_, rfl⟩
  rw [← hN] at HP ⊢
  clear hc hs hb hN
  go_enter Try.func81, Try.ntmps81
  go_upto_region 1 with fail
  rw [← hW1, ← hxb]
  clear hW1 hxb
  go_wp2_with fail
  refine HP.mono ?_
  rintro e w2 ⟨v2, rfl, hf⟩
  have HF := hid hf
  clear hf HP
  go_wp2_with fail
  go_ret
  exact ⟨_, rfl, ⟨HF.out.row, Same.trans HK.out HF.out.kept, fun k e => Nat.le_trans HK.out.size (HF.out.new k e)⟩⟩

set_option maxRecDepth 100000 in
set_option maxHeartbeats 400000 in
theorem tlay_any (w : World) (p i m : Nat) (T : ByteArray) (hc : w.cell? ⟨p, i, none⟩ = some (.string T)) (hT : T.size < 65536) (v : Value) (I : Nat → Prop) (bs : List Nat) (hs : Src w I v bs) (hb : bs.length ≤ 1000000) :
    Calls Try.prog 88 #[.agg #[.pointer (some ⟨p, i, none⟩), .int .i64 (m : Nat)], v] w fun e w' => ∃ v', e = .returned v' ∧ Fresh w w' v' (bs ++ (leOf T.size 2 ++ sb T)) := by
  obtain ⟨W1, hW1⟩ : ∃ W, W = w.alloc (.cells #[.pointer (some ⟨p, i, none⟩), .int .i64 (m : Nat)] 82) := ⟨_, rfl⟩
  obtain ⟨xb, hxb⟩ : ∃ b, b = w.heap.size := ⟨_, rfl⟩
  have HK : Hid (Same w W1) := hid (by rw [hW1]; exact (Kept.refl _ w).alloc _)
  have HB : Hid (Blk W1 xb #[.pointer (some ⟨p, i, none⟩), .int .i64 (m : Nat)] 82) := hid (by rw [hW1, hxb]; exact Blk.new w _ _)
  have c1 := HK.out.cell hc (fun f => f)
  obtain ⟨z0, z1, z2, z3⟩ := HB.out.two
  obtain ⟨ao, cap, hv, _⟩ := id hs
  subst hv
  obtain ⟨n, hn⟩ : ∃ n, n = T.size := ⟨_, rfl⟩
  have HN := hid hn
  have HP : Hid (∀ W, Same W1 W → Calls Try.prog 41 #[.slice ao bs.length cap, .int .u16 (n : Nat)] W fun e w' => ∃ v', e = .returned v' ∧ Fresh W w' v' (bs ++ leOf n 2)) := hid (fun W hk => put16_any (X := (n : Nat)) W _ I bs ((hs.kept HK.out (fun _ _ _ f => f)).kept hk (fun _ _ _ f => f)) n rfl (by omega) (by omega))
  have hnw : IntKind.u16.wrap (n : Int) = (n : Int) := by rw [IntKind.wrap_u16]; omega
  have HLN : Hid ((bs ++ leOf n 2).length + T.size ≤ 1000000000000) := hid (by rw [List.length_append, leOf_length]; omega)
  obtain ⟨N, hNN⟩ : ∃ N, N = bs.length := ⟨_, rfl⟩
  rw [← hNN] at HP ⊢
  rw [← hn]
  have hTn : T.size = n := hn.symm
  clear hc hs hb hNN hT hn
  go_enter Try.func88, Try.ntmps88
  go_upto_region 1 with fail
  rw [← hW1, ← hxb]
  clear hW1 hxb
  go_region_held3 (fun w' => w'.cell? ⟨p, i, none⟩ = some (.string T) ∧ w'.cell? ⟨xb, 0, none⟩ = some (.pointer (some ⟨p, i, none⟩)))
    (first
      | exact ⟨hf4.kept.cell c1 (fun f => f), hf4.kept.cell z0 (fun f => f)⟩
      | (go_split_ands; exact ⟨hf2.kept.cell (by assumption) (fun f => f), hf2.kept.cell (by assumption) (fun f => f)⟩)
      | go_keep)
    (first
      | (go_at_call 41; refine (HP.out _ (by first | exact Kept.refl (fun _ => False) _ | exact (Kept.refl (fun _ => False) _).drew | exact (Kept.refl (fun _ => False) _).drewN _)).mono ?_; rintro e w2 ⟨v2, rfl, hf2⟩)
      | (refine step_append_txt (by rfl) (.tmp 12) (.tmp 16) (by rfl) _ v2 (bs ++ leOf n 2) (by rfl) hf2 T (by rfl) HLN.out ?_; intro v4 w4 hf4))
  all_goals
    have HF : Hid (Fresh w w4 v4 (bs ++ (leOf n 2 ++ sb T))) := hid (by
      rw [← List.append_assoc]
      exact ⟨hf4.row, Same.trans HK.out (undrew19 hf4.kept), fun k e => Nat.le_trans HK.out.size (hf4.new k e)⟩)
    clear hf4 hf2 c1 z0 z1 z2 z3
    go_wp2_with fail
    go_ret
    exact ⟨_, rfl, HF.out⟩

set_option maxRecDepth 100000 in
set_option maxHeartbeats 400000 in
theorem nclear_any (w : World) (p i : Nat) (x : Int) (hc : w.cell? ⟨p, i, none⟩ = some (.int .i64 x)) (hz : w.frozen? ⟨p, i, none⟩ = false) :
    Calls Try.prog 80 #[.agg #[.pointer (some ⟨p, i, none⟩)]] w fun e w' => e = .returned (.tuple #[]) ∧ ∃ W, Same w W ∧ w' = W.setCell ⟨p, i, none⟩ (.int .i64 0) := by
  obtain ⟨W1, hW1⟩ : ∃ W, W = w.alloc (.cells #[.pointer (some ⟨p, i, none⟩)] 79) := ⟨_, rfl⟩
  obtain ⟨xb, hxb⟩ : ∃ b, b = w.heap.size := ⟨_, rfl⟩
  have HK : Hid (Same w W1) := hid (by rw [hW1]; exact (Kept.refl _ w).alloc _)
  have HB : Hid (Blk W1 xb #[.pointer (some ⟨p, i, none⟩)] 79) := hid (by rw [hW1, hxb]; exact Blk.new w _ _)
  have c1 := HK.out.cell hc (fun f => f)
  have f1 : W1.frozen? ⟨p, i, none⟩ = false := by rw [HK.out.frozen (World.block_lt_of_cell? w _ hc) (fun f => f)]; exact hz
  have b0 := HB.out.cell 0
  simp at b0
  clear hc hz
  go_enter Try.func80, Try.ntmps80
  go_upto_region 1 with fail
  rw [← hW1, ← hxb]
  clear hW1 hxb
  go_wp2_with fail
  go_end0
  exact ⟨rfl, W1, HK.out, rfl⟩

set_option maxRecDepth 100000 in
set_option maxHeartbeats 400000 in
theorem tclear_any (w : World) (p i m : Nat) (T : ByteArray) (hc : w.cell? ⟨p, i, none⟩ = some (.string T)) (hz : w.frozen? ⟨p, i, none⟩ = false) :
    Calls Try.prog 87 #[.agg #[.pointer (some ⟨p, i, none⟩), .int .i64 (m : Nat)]] w fun e w' => e = .returned (.tuple #[]) ∧ ∃ W, Same w W ∧ w' = W.setCell ⟨p, i, none⟩ (.string ⟨#[]⟩) := by
  obtain ⟨W1, hW1⟩ : ∃ W, W = w.alloc (.cells #[.pointer (some ⟨p, i, none⟩), .int .i64 (m : Nat)] 82) := ⟨_, rfl⟩
  obtain ⟨xb, hxb⟩ : ∃ b, b = w.heap.size := ⟨_, rfl⟩
  have HK : Hid (Same w W1) := hid (by rw [hW1]; exact (Kept.refl _ w).alloc _)
  have HB : Hid (Blk W1 xb #[.pointer (some ⟨p, i, none⟩), .int .i64 (m : Nat)] 82) := hid (by rw [hW1, hxb]; exact Blk.new w _ _)
  have c1 := HK.out.cell hc (fun f => f)
  have f1 : W1.frozen? ⟨p, i, none⟩ = false := by rw [HK.out.frozen (World.block_lt_of_cell? w _ hc) (fun f => f)]; exact hz
  obtain ⟨z0, z1, z2, z3⟩ := HB.out.two
  clear hc hz
  go_enter Try.func87, Try.ntmps87
  go_upto_region 1 with fail
  rw [← hW1, ← hxb]
  clear hW1 hxb
  go_wp2_with fail
  go_end0
  exact ⟨rfl, W1, HK.out, rfl⟩

end Go.Proofs.Ytaefgnakdadgeaa
