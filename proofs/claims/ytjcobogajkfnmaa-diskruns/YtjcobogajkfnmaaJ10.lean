/-
  Of the proof: parts Cln, Whl.
-/
import Derived.Lib.SliceRun
import Derived.Test.YtjcobogajkfnmaaJ3

/-
  Rows cloned; the rest of a row.
-/
namespace Go.Proofs.Ytjcobogajkfnmaa
open Go.RowKit

/-- The rest of a row, as a source. -/
theorem Row.rest {w : World} {ao : Option Addr} {cap : Nat} {bs : List Nat} (h : Row w (.slice ao bs.length cap) bs) (k : Nat) (hk : k ≤ bs.length) (a' : Option Addr) (c' : Nat) (ha : k < bs.length → ∃ g, ao = some ⟨g, 0, none⟩ ∧ a' = some ⟨g, k, none⟩) :
    Src w (fun j => (Value.slice ao bs.length cap).ownBlock = some j) (.slice a' (bs.length - k) c') (bs.drop k) := by
  refine ⟨a', c', by rw [List.length_drop], fun hne => ?_⟩
  have hlt : k < bs.length := by
    refine Classical.byContradiction (fun hc => hne (List.drop_eq_nil_of_le (by omega)))
  obtain ⟨g, rfl, rfl⟩ := ha hlt
  refine ⟨g, k, rfl, rfl, fun j hj => ?_⟩
  have hj2 : k + j < bs.length := by rw [List.length_drop] at hj; omega
  have := h.cell (k + j) hj2
  rw [List.getElem_drop]
  exact this

theorem row_none (w : World) : Row (w.alloc (.cells #[] 5)) (.slice (some ⟨w.heap.size, 0, none⟩) 0 0) [] :=
  ⟨rfl, .inr ⟨w.heap.size, 0, #[], rfl, Nat.zero_le _, Blk.new w #[] _, Nat.le_refl _, Nat.zero_le _, rfl, rfl⟩⟩

set_option maxRecDepth 100000 in
set_option maxHeartbeats 1000000 in
theorem pclone_big (w : World) (v : Value) (I : Nat → Prop) (cs : List Nat) (hs : Src w I v cs) (hn : cs.length ≤ 1000000000) :
    Calls Try.prog 38 #[v] w fun e w' => ∃ v', e = .returned v' ∧ Fresh w w' v' cs := by
  obtain ⟨ao, cap, rfl, hc⟩ := id hs
  have q22 : ∀ (w : World) (a : Option Addr) (n c n' c' : Nat), (binOp .eql 33 (.slice a n c) (.slice none n' c')).run Try.prog w = .ok (.bool a.isNone) w := fun w a n c n' c' => Lib.run_eql_slice_nil w _ _ a n c n' c' Try.underlying33
  cases ao with
  | none =>
    have e0 : cs = [] := Classical.byContradiction (fun h => by obtain ⟨_, _, e, _⟩ := hc h; cases e)
    subst e0
    clear hs hc
    go_enter Try.func38, Try.ntmps38
    go_wp2_with fail
    go_ret
    exact ⟨_, rfl, World.ownsRow_nil w 0 5 1, Kept.refl _ _, fun k e => by cases e⟩
  | some ad =>
    have HS : Hid (Src w I (.slice (some ad) cs.length cap) cs) := hs
    have HR0 : Hid (Row (w.alloc (.cells #[] 5)) (.slice (some ⟨w.heap.size, 0, none⟩) 0 0) []) := hid (row_none w)
    have HK0 : Hid (Same w (w.alloc (.cells #[] 5))) := hid ((Kept.refl _ w).alloc _)
    obtain ⟨L, hL⟩ : ∃ L, L = cs.length := ⟨_, rfl⟩
    have HL : Hid (L = cs.length) := hL
    rw [← hL] at HS hn ⊢
    clear hs hc hL
    go_enter Try.func38, Try.ntmps38
    have HLN : Hid (([] : List Nat).length + cs.length ≤ 1000000000000) := hid (by have := HL.out; simp; omega)
    go_wp2_with (at_builtin; refine wpList_append_any _ rfl (.tmp 5) (.tmp 6) rfl (.slice (some ⟨w.heap.size, 0, none⟩) 0 0) [] rfl HR0.out I (.slice (some ad) L cap) cs rfl (fun n c e => by cases e) (HS.out.kept HK0.out (fun _ _ _ f => f)) HLN.out ?_)
    intro v3 w3 hr3 hg3 ho3
    have HR3 : Hid (Row w3 v3 cs) := hid (by simpa using hr3)
    have HK3 : Hid (Same w w3) := hid (HK0.out.grown hg3 (fun j e => .inr (by
      have e1 : w.heap.size = j := by simpa [Value.ownBlock] using e
      omega)))
    have HO3 : Hid (∀ k, v3.ownBlock = some k → w.heap.size ≤ k) := hid (fun k e => by
      rcases ho3 with h9 | h9
      · rw [h9] at e
        have e1 : w.heap.size = k := by simpa [Value.ownBlock] using e
        omega
      · rw [h9] at e
        have e1 : w.heap.size + 1 = k := by simpa using e
        omega)
    obtain ⟨a3, cp3, hv3, _⟩ := hr3.shape
    clear hr3 hg3 ho3
    go_wp2_with fail
    go_ret
    exact ⟨_, rfl, HR3.out, HK3.out, HO3.out⟩

theorem pclone_any (w : World) (v : Value) (I : Nat → Prop) (cs : List Nat) (hs : Src w I v cs) (hn : cs.length ≤ 2000000) :
    Calls Try.prog 38 #[v] w fun e w' => ∃ v', e = .returned v' ∧ Fresh w w' v' cs := pclone_big w v I cs hs (Nat.le_trans hn (by decide))

end Go.Proofs.Ytjcobogajkfnmaa

/-
  Rows of bytes whose room behind them holds bytes too: what is cloned; such a row spoilt.
-/
namespace Go.Proofs.Ytjcobogajkfnmaa
open Go.RowKit

/-- All cells of a row's block are bytes, its room too. -/
def Whole (w : World) (v : Value) : Prop := ∀ g n c, v = .slice (some ⟨g, 0, none⟩) n c → ∃ ds, Row w (.slice (some ⟨g, 0, none⟩) c c) ds

theorem Whole.kept {F : Nat → Prop} {w w' : World} {v : Value} (h : Whole w v) (hk : Kept F w w') (hn : ∀ k, v.ownBlock = some k → ¬ F k) : Whole w' v := by
  intro g n c e
  obtain ⟨ds, hr⟩ := h g n c e
  exact ⟨ds, hr.kept hk (fun k e2 => hn k (by rw [e]; exact e2))⟩

theorem whole_nil (w : World) : Whole w (.slice none 0 0) := fun g n c e => by cases e

theorem run_append_whole (w : World) (ty : TypeId) (g : Nat) (hrow : Row w (.slice (some ⟨g, 0, none⟩) 0 0) []) (a : Addr) (c : Nat) (cs : List Nat) (hcs : BytesAt w a cs) (hlen : cs.length ≤ 1000000000000) (v' : Value) (w' : World)
    (hr : (Builtin.append_ #[33, 33] ty #[.slice (some ⟨g, 0, none⟩) 0 0, .slice (some a) cs.length c]).run Try.prog w = .ok v' w') (hro : Row w' v' ([] ++ cs)) : Whole w' v' := by
  obtain ⟨i0, hi, hz0, hz1, hz2⟩ := info_parts Try.info8
  have hsz : i0.size = 1 := hz1
  have hl : (cs.map byteV).length = cs.length * 1 := by simp
  by_cases h0 : cs = []
  · subst h0
    obtain ⟨w2, hr2, _⟩ := run_append_fits (P := Try.prog) w 0 33 ty 5 i0 1 Try.underlying33 hi hz1 g 0 0 [] hrow a 0 c [] rfl (by intro j u hu; simp at hu) (by simp) (Nat.le_refl _)
    have hr3 : (Builtin.append_ #[33, 33] ty #[.slice (some ⟨g, 0, none⟩) 0 0, .slice (some a) 0 c]).run Try.prog w = .ok v' w' := hr
    rw [hr3] at hr2
    simp only [Result.ok.injEq] at hr2
    intro g9 n9 c9 e9
    have e8 : v' = .slice (some ⟨g, 0, none⟩) 0 0 := hr2.1
    rw [e8] at e9 hro
    simp only [Value.slice.injEq, Option.some.injEq, Addr.mk.injEq, and_true] at e9
    obtain ⟨rfl, rfl, rfl⟩ := e9
    exact ⟨[], hro⟩
  · have hpos : 0 < cs.length := by cases cs with | nil => exact absurd rfl h0 | cons _ _ => simp
    have hr2 := run_append_grow (P := Try.prog) w 33 ty 5 i0 (.int .u8 0) Try.underlying33 hi hz0 ⟨g, 0, none⟩ 0 0 [] (by simp) (by intro j u hu; simp at hu) a cs.length c (cs.map byteV) (by rw [hsz]; simp) hcs (by omega) (by omega) (growslice_fits (by omega) (by rw [hz2]; omega))
    rw [hr] at hr2
    simp only [Result.ok.injEq] at hr2
    have hge := grownCap_ge w (0 + cs.length) 0 5
    have hmx := grownCap_le_maxLen w (0 + cs.length) 0 5 (by simp only [maxLen]; omega)
    obtain ⟨K, hK⟩ : ∃ K, K = grownCap w (0 + cs.length) 0 5 := ⟨_, rfl⟩
    rw [← hK] at hr2 hge hmx
    obtain ⟨e8, e9⟩ := hr2
    intro g9 n9 c9 e7
    rw [e8] at e7
    simp only [Value.slice.injEq, Option.some.injEq, Addr.mk.injEq, and_true] at e7
    obtain ⟨rfl, _, rfl⟩ := e7
    obtain ⟨cur, hcur⟩ : ∃ cur, cur = ([] : List Value).toArray ++ (cs.map byteV).toArray ++ Builtin.zeroCells (Value.int .u8 0).cells (K - (0 + cs.length)) := ⟨_, rfl⟩
    have hcl : cur.toList = (cs ++ List.replicate (K - cs.length) 0).map byteV := by
      have e : (Value.int .u8 0).cells = #[.int .u8 0] := rfl
      rw [hcur]
      simp [Builtin.zeroCells, e, byteV]
      refine List.ext_getElem (by simp) (fun i h1 h2 => ?_)
      simp [Nat.mod_one]
    have hnl : (cs ++ List.replicate (K - cs.length) 0).length = K := by simp; omega
    rw [← hcur] at e9
    refine ⟨cs ++ List.replicate (K - cs.length) 0, by simp, .inr ⟨w.heap.size, K, cur, by rw [hnl], Nat.zero_le _, ?_, by omega, hmx, ?_, ?_⟩⟩
    · rw [e9]
      exact Blk.new w.drew cur 5
    · have := congrArg List.length hcl
      rw [List.length_map, hnl] at this
      simpa using this
    · rw [hcl, Nat.mul_one, List.take_of_length_le (by simp)]

/-- append onto an empty row without room: the new row's room holds bytes. -/
theorem wpList_append_whole {ops : Array Oper} {rest : List Oper} {o : Oper} {a : Act} {Q : Exit → Act → World → Prop} (w : World) (hgd : o.guard = none) (s x : Operand)
    (ho : o.op = .call { callee := .builtin .append, args := #[s, x], argTypes := #[33, 33] })
    (g : Nat) (hs : a.eval s = .slice (some ⟨g, 0, none⟩) 0 0) (hrow : Row w (.slice (some ⟨g, 0, none⟩) 0 0) []) (I : Nat → Prop) (ad : Addr) (n c : Nat) (cs : List Nat) (hx : a.eval x = .slice (some ad) n c) (hsrc : Src w I (.slice (some ad) n c) cs) (hlen : cs.length ≤ 1000000000000)
    (h : ∀ v' w', Row w' v' cs → Whole w' v' → w.grownBy w' (some g) → (v'.ownBlock = some g ∨ v'.ownBlock = some w.heap.size) → wpList Try.prog ops Q rest (a.put o.dst v') w') : wpList Try.prog ops Q (o :: rest) a w := by
  have hat := Src.at hsrc
  obtain ⟨hn, hb⟩ := hat
  subst hn
  have hcs : BytesAt w ad cs := by
    by_cases h0 : cs = []
    · subst h0; intro j u hu; simp at hu
    · obtain ⟨a', e, hb'⟩ := hb h0
      injection e with e
      subst e
      exact hb'
  refine wpList_plain hgd fun K hK => ?_
  obtain ⟨v', w', hr, h2, h3, h4⟩ := run_append_row w o.type (.slice (some ⟨g, 0, none⟩) 0 0) [] hrow ad c cs hcs (by simpa using hlen)
  have h5 := run_append_whole w o.type g hrow ad c cs hcs hlen v' w' hr h2
  unfold Oper.wp execOp
  simp only [ho, resolve, invoke, builtin, Sem.run_bind, Sem.run_pure, Result.andThen_ok, List.map_toArray, List.map_cons, List.map_nil, hs, hx, hr]
  exact hK _ _ (h v' w' (by simpa using h2) h5 h3 h4)

set_option maxRecDepth 100000 in
set_option maxHeartbeats 1000000 in
theorem pclone_wbig (w : World) (v : Value) (I : Nat → Prop) (cs : List Nat) (hs : Src w I v cs) (hn : cs.length ≤ 1000000000) :
    Calls Try.prog 38 #[v] w fun e w' => ∃ v', e = .returned v' ∧ Fresh w w' v' cs ∧ Whole w' v' := by
  obtain ⟨ao, cap, rfl, hc⟩ := id hs
  have q22 : ∀ (w : World) (a : Option Addr) (n c n' c' : Nat), (binOp .eql 33 (.slice a n c) (.slice none n' c')).run Try.prog w = .ok (.bool a.isNone) w := fun w a n c n' c' => Lib.run_eql_slice_nil w _ _ a n c n' c' Try.underlying33
  cases ao with
  | none =>
    have e0 : cs = [] := Classical.byContradiction (fun h => by obtain ⟨_, _, e, _⟩ := hc h; cases e)
    subst e0
    clear hs hc
    go_enter Try.func38, Try.ntmps38
    go_wp2_with fail
    go_ret
    exact ⟨_, rfl, ⟨World.ownsRow_nil w 0 5 1, Kept.refl _ _, fun k e => by cases e⟩, whole_nil _⟩
  | some ad =>
    have HS : Hid (Src w I (.slice (some ad) cs.length cap) cs) := hs
    have HR0 : Hid (Row (w.alloc (.cells #[] 5)) (.slice (some ⟨w.heap.size, 0, none⟩) 0 0) []) := hid (row_none w)
    have HK0 : Hid (Same w (w.alloc (.cells #[] 5))) := hid ((Kept.refl _ w).alloc _)
    obtain ⟨L, hL⟩ : ∃ L, L = cs.length := ⟨_, rfl⟩
    have HL : Hid (L = cs.length) := hL
    rw [← hL] at HS hn ⊢
    clear hs hc hL
    go_enter Try.func38, Try.ntmps38
    have HLN : Hid (cs.length ≤ 1000000000000) := hid (by have := HL.out; omega)
    go_wp2_with (at_builtin; refine wpList_append_whole _ rfl (.tmp 5) (.tmp 6) rfl w.heap.size rfl HR0.out I ad L cap cs rfl (HS.out.kept HK0.out (fun _ _ _ f => f)) HLN.out ?_)
    intro v3 w3 hr3 hw3 hg3 ho3
    have HR3 : Hid (Row w3 v3 cs) := hr3
    have HW3 : Hid (Whole w3 v3) := hw3
    have HK3 : Hid (Same w w3) := hid (HK0.out.grown hg3 (fun j e => .inr (by injection e with e; omega)))
    have HO3 : Hid (∀ k, v3.ownBlock = some k → w.heap.size ≤ k) := hid (fun k e => by
      rcases ho3 with h9 | h9
      · rw [h9] at e; injection e with e; omega
      · rw [h9] at e
        have e1 : w.heap.size + 1 = k := by simpa using e
        omega)
    obtain ⟨a3, cp3, hv3, _⟩ := hr3.shape
    clear hr3 hg3 ho3 hw3
    go_wp2_with fail
    go_ret
    exact ⟨_, rfl, ⟨HR3.out, HK3.out, HO3.out⟩, HW3.out⟩

theorem pclone_whole (w : World) (v : Value) (I : Nat → Prop) (cs : List Nat) (hs : Src w I v cs) (hn : cs.length ≤ 2000000) :
    Calls Try.prog 38 #[v] w fun e w' => ∃ v', e = .returned v' ∧ Fresh w w' v' cs ∧ Whole w' v' := pclone_wbig w v I cs hs (Nat.le_trans hn (by decide))

end Go.Proofs.Ytjcobogajkfnmaa
