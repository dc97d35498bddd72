/-
  Layer 16: mac.
-/
import Derived.Test.YtfhfnkhiomahfaaGreatDoorTkB
import Derived.Test.YtfhfnkhiomahfaaGreatDoorHmQ
import Derived.Deep.RegionLaw
namespace Go.Proofs.YtfhfnkhiomahfaaGreatDoor
open Go.RowKit Go.Shelf

/-- append of bytes as a step of a region that draws its order. -/
theorem step_append_16 {ops : Array Oper} {o : Oper} {a : Act} {w : World} {K : Act → World → Prop} {Q : Exit → Act → World → Prop} {E : Prop} (hgd : o.guard = none) (s x : Operand)
    (ho : o.op = .call { callee := .builtin .append, args := #[s, x], argTypes := #[52, 52] })
    (v : Value) (bs : List Nat) (hs : a.eval s = v) (hrow : Row w v bs) (ad : Addr) (n cap : Nat) (cs : List Nat) (hx : a.eval x = .slice (some ad) n cap) (hn : n = cs.length) (hb : BytesAt w ad cs) (hlen : bs.length + cs.length ≤ 1000000000000)
    (h : ∀ v' w', Row w' v' (bs ++ cs) → w.grownBy w' v.ownBlock → (v'.ownBlock = v.ownBlock ∨ v'.ownBlock = some w.heap.size) → K (a.put o.dst v') w') : if Region.wanted o (yielded ops a.tmps) = true then Oper.wp Tryz.prog o a w K Q else E := by
  have hw : Region.wanted o (yielded ops a.tmps) = true := by simp [Region.wanted, hgd]
  rw [if_pos hw]
  subst hn
  obtain ⟨v', w', hr, h2, h3, h4⟩ := run_append_row w o.type v bs hrow ad cap cs hb hlen
  unfold Oper.wp execOp
  simp only [ho, resolve, invoke, builtin, Sem.run_bind, Sem.run_pure, Result.andThen_ok, List.map_toArray, List.map_cons, List.map_nil, hs, hx, hr]
  exact h v' w' h2 h3 h4

theorem Tryz.size32' : (Tryz.prog.info? 86).map (·.size) = some 32 := by kernel_rfl

theorem index_b32 (b : List Nat) (hl : b.length = 32) (i : Nat) (hi : i < 32) (w : World) : (Instr.index 86 (.agg (b.map byteV).toArray) (.int .i64 (i : Nat))).run Tryz.prog w = .ok (.int .u8 (b.getD i 0 : Nat)) w :=
  run_index15 86 5 32 .i64 Tryz.underlying86 Tryz.sizeU8 _ Tryz.underlying5 rfl _ i _ hi (by simp [byteV, hl, hi]) w

theorem hexL_take (M : List Nat) (i : Nat) (hi : i < M.length) : hexL (M.take (i + 1)) = hexL (M.take i) ++ [hexs.getD (M.getD i 0 / 16) 0, hexs.getD (M.getD i 0 % 16) 0] := by
  unfold hexL
  rw [List.take_add_one, List.flatMap_append, List.getD_eq_getElem?_getD (l := M), List.getElem?_eq_getElem hi]
  simp

theorem hex_index (q : Nat) (h : q < 16) (W : World) : (Instr.index 9 (.string ⟨#[48, 49, 50, 51, 52, 53, 54, 55, 56, 57, 97, 98, 99, 100, 101, 102]⟩) (.int .u8 (q : Nat))).run Tryz.prog W = .ok (.int .u8 ((hexs.getD q 0).toNat : Nat)) W := by
  have hu := run_underlying (P := Tryz.prog) Tryz.underlying9 W
  have hq : q = 0 ∨ q = 1 ∨ q = 2 ∨ q = 3 ∨ q = 4 ∨ q = 5 ∨ q = 6 ∨ q = 7 ∨ q = 8 ∨ q = 9 ∨ q = 10 ∨ q = 11 ∨ q = 12 ∨ q = 13 ∨ q = 14 ∨ q = 15 := by omega
  rcases hq with rfl | rfl | rfl | rfl | rfl | rfl | rfl | rfl | rfl | rfl | rfl | rfl | rfl | rfl | rfl | rfl <;> (simp [Instr.index, Sem.run_bind, asIntOf, hu, hexs]; rfl)

theorem and15 (x : Nat) (h : x < 256) : bits .and .u8 (x : Int) 15 = ((x % 16 : Nat) : Int) := by
  have : ∀ x : Fin 256, bits .and .u8 (x.val : Int) 15 = ((x.val % 16 : Nat) : Int) := by decide +kernel
  exact this ⟨x, h⟩

theorem bytesAt_two (w : World) (x y : Nat) : BytesAt (w.alloc (.cells #[.int .u8 (x : Nat), .int .u8 (y : Nat)] 5)) ⟨w.heap.size, 0, none⟩ [x, y] := by
  intro j u hu
  have hb := Blk.new w #[.int .u8 (x : Nat), .int .u8 (y : Nat)] 5
  match j with
  | 0 =>
    simp only [List.map_cons, List.getElem?_cons_zero, Option.some.injEq] at hu
    subst hu
    exact hb.cell 0
  | 1 =>
    simp only [List.map_cons, List.getElem?_cons_succ, List.getElem?_cons_zero, Option.some.injEq] at hu
    subst hu
    exact hb.cell 1
  | j + 2 => simp at hu

theorem natsL_app (a b : List UInt8) : natsL (a ++ b) = natsL a ++ natsL b := by simp [natsL]

theorem txt_nats (l : List UInt8) : txt (natsL l) = tx6 l := by
  have h := txt_sb (tx6 l)
  unfold sb at h
  rw [tx6_data] at h
  exact h

set_option maxRecDepth 100000 in
set_option maxHeartbeats 1000000 in
theorem mac_any (w : World) (h : W6 w) (t : ByteArray) (u s : Int) (k : ByteArray) (hk : k.size ≤ 100000000) (ht : t.size ≤ 100000000) (hu : -9223372036854775808 ≤ u ∧ u ≤ 9223372036854775807) (hs : -9223372036854775808 ≤ s ∧ s ≤ 9223372036854775807) :
    Calls Tryz.prog 26 #[clV t u s, .string k] w fun e w' => e = .returned (.string (tx6 (macL k (bodI t u s)))) ∧ Same w w' := by
  obtain ⟨W1, hW1⟩ : ∃ W, W = w.alloc (.cells #[.string t, .int .i64 u, .int .i64 s] 23) := ⟨_, rfl⟩
  obtain ⟨xb, hxb⟩ : ∃ b, b = w.heap.size := ⟨_, rfl⟩
  have HK1 : Hid (Same w W1) := hid (by rw [hW1]; exact (Kept.refl _ w).alloc _)
  have HB : Hid (Blk W1 xb #[.string t, .int .i64 u, .int .i64 s] 23) := hid (by rw [hW1, hxb]; exact Blk.new w _ _)
  obtain ⟨G2, W2, hcv2, hk2, hs2, hz2, hG2⟩ := bytes16 W1 k
  obtain ⟨g2, hg2⟩ : ∃ g, g = W1.heap.size := ⟨_, rfl⟩
  rw [← hg2] at hcv2 hs2
  have HK2 : Hid (Same w W2) := hid (Same.trans HK1.out hk2)
  have HB2 : Hid (Blk W2 xb #[.string t, .int .i64 u, .int .i64 s] 23) := hid (HB.out.kept hk2 (fun f => f))
  have HS2 : Hid (Src W2 (fun k => k = g2) (.slice (some ⟨g2, 0, none⟩) k.size G2) (sb k) ∧ k.size ≤ G2 ∧ k.size ≤ 100000000 ∧ g2 < W2.heap.size) := hid ⟨hs2, hG2, hk, by omega⟩
  have x0 := HB2.out.cell 0
  have x1 := HB2.out.cell 1
  have x2 := HB2.out.cell 2
  simp only [List.getElem?_toArray, List.getElem?_cons_zero, List.getElem?_cons_succ] at x0 x1 x2
  have HBO := body_any W2 (h.same HK2.out) t u s (by omega) hu hs
  obtain ⟨bd, hbd⟩ : ∃ b, b = bodI t u s := ⟨_, rfl⟩
  have HBL : Hid (bd.length ≤ 200000000) := hid (by
    rw [hbd]
    have h1 := Lib.itoa_length_le u hu.1 hu.2
    have h2 := Lib.itoa_length_le s hs.1 hs.2
    have h3 : t.data.toList.length = t.size := Array.length_toList
    simp only [bodI, List.length_append, List.length_cons]
    omega)
  rw [← hbd] at HBO ⊢
  unfold clV at HBO ⊢
  have HW := hid h
  clear hs2 hk2 hz2 hG2 hk ht hu hs h hbd hg2
  go_enter Tryz.func26, Tryz.ntmps26
  go_upto_region 2 with fail
  rw [← hW1, ← hxb]
  clear hW1 hxb
  go_wp2_with fail
  refine HBO.mono ?_
  rintro e w3 ⟨rfl, hk3⟩
  obtain ⟨G4, W4, hcv4, hk4, hs4, hz4, hG4⟩ := bytes16 w3 (tx6 bd)
  obtain ⟨g4, hg4⟩ : ∃ g, g = w3.heap.size := ⟨_, rfl⟩
  rw [← hg4] at hcv4 hs4
  have HK4 : Hid (Same W2 W4) := hid (Same.trans hk3 hk4)
  have hsz := HK4.out.size
  obtain ⟨M, hM⟩ : ∃ M, M = macF (natsL k.data.toList) (natsL bd) := ⟨_, rfl⟩
  have hsb : sb (tx6 bd) = natsL bd := by unfold sb; rw [tx6_data]; rfl
  have HMA := pmac_any W4 (.slice (some ⟨g2, 0, none⟩) k.size G2) (.slice (some ⟨g4, 0, none⟩) (tx6 bd).size G4) (fun k => k = g4) (fun k => k = g2) (sb k) (sb (tx6 bd)) (HS2.out.1.kept HK4.out (fun _ _ _ f => f)) (fun x e => by have := HS2.out.2.2.2; omega) (fun a n c e => by injection e with _ e1 e2; have := HS2.out.2.1; omega) (sb_lt _) (by rw [sb_size]; have := HS2.out.2.2.1; omega) hs4 (fun x e => by omega) (fun a n c e => by injection e with _ e1 e2; omega) (sb_lt _) (by rw [sb_size, tx6_size]; have := HBL.out; omega) (HW.out.same (Same.trans HK2.out HK4.out)).tab
  rw [show sb k = natsL k.data.toList from rfl, hsb, ← hM] at HMA
  have HMT : Hid (hexL M = macL k bd) := hid (by rw [hM]; rfl)
  have HML : Hid (M.length = 32 ∧ ∀ x ∈ M, x < 256) := hid ⟨by rw [hM]; exact shaF_length _, by rw [hM]; exact macF_lt _ _⟩
  clear hs4 hk3 hk4 hz4 hG4 hg4 hM hsb HBO hcv2 x0 x1 x2
  go_wp2_with fail
  refine HMA.mono ?_
  rintro e w5 ⟨rfl, hk5⟩
  have HK5 : Hid (Same w w5) := hid (Same.trans (Same.trans HK2.out HK4.out) hk5)
  have HIX := hid (fun i hi => index_b32 M HML.out.1 i hi)
  obtain ⟨V, hV⟩ : ∃ V : Value, V = .agg (M.map byteV).toArray := ⟨_, rfl⟩
  rw [← hV] at HIX ⊢
  clear hk5 HMA hV hcv4 hsz
  go_wp2_with fail
  go_loopg [5, 14] 32 (fun k o z wr => ∃ i : Nat, i ≤ 32 ∧ 32 - i ≤ k ∧ z = .int .i64 (i : Nat) ∧ Hid (Fresh w5 wr o (natsL (hexL (M.take i)))))
  case atStart => exact ⟨0, by omega, by omega, rfl, hid ⟨row_none15 _, Kept.refl _ _, fun k e => by cases e⟩⟩
  case round =>
    obtain ⟨i, hi, hik, rfl, HF⟩ := hrel
    by_cases hlt : i < 32
    · have hix := fun W => HIX.out i hlt W
      obtain ⟨x, hx⟩ : ∃ x, x = M.getD i 0 := ⟨_, rfl⟩
      have HNX := hid (hexL_take M i (by rw [HML.out.1]; exact hlt))
      rw [← hx] at hix HNX
      have hx256 : x < 256 := by rw [hx]; exact getD_byte HML.out.2 i
      clear hx
      obtain ⟨q, hq⟩ : ∃ q, q = x / 16 := ⟨_, rfl⟩
      obtain ⟨r, hr⟩ : ∃ r, r = x % 16 := ⟨_, rfl⟩
      have hq1 : (x : Int) / 16 = (q : Int) := by omega
      have hr1 : bits .and .u8 (x : Int) 15 = (r : Int) := by rw [and15 x hx256, hr]
      have i1 := fun W => hex_index q (by omega) W
      have i2 := fun W => hex_index r (by omega) W
      obtain ⟨ya, hya⟩ : ∃ y, y = (hexs.getD q 0).toNat := ⟨_, rfl⟩
      obtain ⟨yb, hyb⟩ : ∃ y, y = (hexs.getD r 0).toNat := ⟨_, rfl⟩
      rw [← hya] at i1
      rw [← hyb] at i2
      have HN2 : Hid (natsL (hexL (M.take (i + 1))) = natsL (hexL (M.take i)) ++ [ya, yb]) := hid (by rw [HNX.out, natsL_app, hya, hyb, hq, hr]; rfl)
      have HL2 : Hid ((natsL (hexL (M.take i))).length + [ya, yb].length ≤ 1000000000000) := hid (by rw [natsL, List.length_map, hexL_length, List.length_take]; simp; omega)
      obtain ⟨bs, hbs⟩ : ∃ bs, bs = natsL (hexL (M.take i)) := ⟨_, rfl⟩
      rw [← hbs] at HF HN2 HL2
      obtain ⟨ao, no, co, eo⟩ : ∃ a n c, u5 = Value.slice a n c := by obtain ⟨a, c, e, _⟩ := HF.out.row.shape; exact ⟨a, _, c, e⟩
      subst eo
      clear hq hr hya hyb hbs HNX
      go_wp2_with fail
      go_region_law (refine step_append_16 rfl (.tmp 17) (.tmp 24) rfl (.slice ao no co) bs (by rfl) (HF.out.row.kept (show Same wr _ by first | exact ((Kept.refl _ _).drew).alloc _ | exact ((Kept.refl _ _).alloc _).drew | exact (Kept.refl _ _).alloc _) (fun _ _ f => f)) ⟨wr.heap.size, 0, none⟩ 2 2 [ya, yb] (by rfl) rfl (bytesAt_two _ _ _) HL2.out ?_; intro v5 w7 hr7 hg7 hv7; have HF7 : Hid (Fresh w5 w7 v5 (bs ++ [ya, yb])) := hid (Fresh.app (wr := wr.drew) ⟨HF.out.row, HF.out.kept.drew, HF.out.new⟩ hr7 hg7 hv7); clear hr7 hg7 hv7)
      all_goals
        rw [← HN2.out] at HF7
        go_wp2_with fail
        go_roundg (gk - 1)
        case measure => omega
        case rel => exact ⟨i + 1, by omega, by omega, by go_num, HF7⟩
    · obtain rfl : i = 32 := by omega
      have hb : decide ((32 : Int) < 32) = false := by decide
      rw [List.take_of_length_le (by rw [HML.out.1]; exact Nat.le_refl _), HMT.out] at HF
      obtain ⟨ao, no, co, eo⟩ : ∃ a n c, u5 = Value.slice a n c := by obtain ⟨a, c, e, _⟩ := HF.out.row.shape; exact ⟨a, _, c, e⟩
      have hcv := str8 (a := ao) (n := no) (c := co) (by rw [← eo]; exact Src.ofRow HF.out.row) (by obtain ⟨a, c, e, _⟩ := HF.out.row.shape; rw [eo] at e; injection e with _ e _; exact e.symm)
      rw [txt_nats] at hcv
      subst eo
      go_wp2_with fail
      go_ret
      exact ⟨rfl, Same.trans HK5.out HF.out.kept⟩

end Go.Proofs.YtfhfnkhiomahfaaGreatDoor
