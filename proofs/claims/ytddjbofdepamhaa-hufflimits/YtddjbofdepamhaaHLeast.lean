/-
  The reference's with and Least: lists of weights, level by level.
-/
import Derived.Test.YtddjbofdepamhaaHRef
import Derived.Test.YtddjbofdepamhaaHFairM
namespace Go.Proofs.Ytddjbofdepamhaa
open Go.RowKit

/-- A rising list with one more. -/
def insW (x : Nat) (l : List Nat) : List Nat := l.takeWhile (fun a => decide (a ≤ x)) ++ x :: l.dropWhile (fun a => decide (a ≤ x))

theorem insW_perm (x : Nat) (l : List Nat) : (insW x l).Perm (x :: l) := by
  unfold insW
  refine List.perm_middle.trans ?_
  rw [List.takeWhile_append_dropWhile]

theorem insW_cons_le {x a : Nat} (l : List Nat) (h : a ≤ x) : insW x (a :: l) = a :: insW x l := by simp [insW, h]
theorem insW_cons_gt {x a : Nat} (l : List Nat) (h : ¬ a ≤ x) : insW x (a :: l) = x :: a :: l := by simp [insW, h]

theorem insW_up (x : Nat) (l : List Nat) (h : Up l) : Up (insW x l) := by
  induction l with
  | nil => simp [insW, Up]
  | cons a l ih =>
    have ha := List.pairwise_cons.1 h
    by_cases hle : a ≤ x
    · rw [insW_cons_le l hle]
      refine List.pairwise_cons.2 ⟨fun y hy => ?_, ih ha.2⟩
      rcases List.mem_cons.1 ((insW_perm x l).mem_iff.1 hy) with rfl | hy
      · exact hle
      · exact ha.1 y hy
    · rw [insW_cons_gt l hle]
      refine List.pairwise_cons.2 ⟨fun y hy => ?_, h⟩
      rcases List.mem_cons.1 hy with rfl | hy
      · omega
      · have := ha.1 y hy; omega

theorem insW_at (x : Nat) (l : List Nat) (k : Nat) (h1 : ∀ j (_ : j < l.length), j < k → l[j] ≤ x) (hk : k ≤ l.length) (h2 : ∀ h : k < l.length, ¬ l[k] ≤ x) : insW x l = l.take k ++ x :: l.drop k := by
  induction l generalizing k with
  | nil => simp [insW]
  | cons a l ih =>
    cases k with
    | zero =>
      have := h2 (by simp)
      simp at this
      rw [insW_cons_gt l (by omega)]
      simp
    | succ k =>
      have ha := h1 0 (by simp) (by omega)
      simp at ha
      rw [insW_cons_le l ha, ih k (fun j hj hjk => h1 (j + 1) (by simpa using hj) (by omega)) (by simpa using hk) (fun h => h2 (by simpa using h))]
      simp

theorem up_eq {l r : List Nat} (hl : Up l) (hr : Up r) (h : l.Perm r) : l = r := h.eq_of_pairwise (fun _ _ _ _ a b => Nat.le_antisymm a b) hl hr

/-- The leaves, when i counts have been looked at. -/
def lvs (ns : List Nat) : Nat → List Nat
  | 0 => []
  | i + 1 => if key ns i = 0 then lvs ns i else insW (key ns i) (lvs ns i)

theorem lvs_perm (ns : List Nat) (i : Nat) : (lvs ns i).Perm ((usedTo ns i).map (key ns)) := by
  induction i with
  | zero => simp [lvs, usedTo]
  | succ i ih =>
    rw [usedTo_succ, List.map_append]
    by_cases h : key ns i = 0
    · simp only [lvs, if_pos h, List.map_nil, List.append_nil]; exact ih
    · simp only [lvs, if_neg h, List.map_cons, List.map_nil]
      exact (insW_perm _ _).trans ((ih.cons _).trans (List.perm_append_singleton _ _).symm)

theorem lvs_up (ns : List Nat) (i : Nat) : Up (lvs ns i) := by
  induction i with
  | zero => exact List.Pairwise.nil
  | succ i ih =>
    simp only [lvs]
    split
    · exact ih
    · exact insW_up _ _ ih

theorem lvs_all (ns : List Nat) : lvs ns ns.length = wsOf ns := up_eq (lvs_up ns _) (wsOf_up ns) ((lvs_perm ns _).trans ((ris_perm ns).map (key ns)).symm)

/-- The weights of a level, when p pairs have been put in. -/
def putAll (ws : List Nat) (ps : List Nat) : List Nat := ps.foldl (fun l p => insW p l) ws

theorem putAll_perm (ws ps : List Nat) : (putAll ws ps).Perm (ws ++ ps) := by
  induction ps generalizing ws with
  | nil => simp [putAll]
  | cons p ps ih =>
    have h := ih (insW p ws)
    refine h.trans (((insW_perm p ws).append_right ps).trans ?_)
    exact (List.perm_middle (l₁ := ws) (l₂ := ps) (a := p)).symm

theorem putAll_up (ws ps : List Nat) (h : Up ws) : Up (putAll ws ps) := by
  induction ps generalizing ws with
  | nil => exact h
  | cons p ps ih => exact ih _ (insW_up p ws h)

theorem putAll_snoc (ws ps : List Nat) (p : Nat) : putAll ws (ps ++ [p]) = insW p (putAll ws ps) := by simp [putAll]

/-- The reference's lists. -/
def curL (ws : List Nat) : Nat → List Nat
  | 0 => []
  | t + 1 => putAll ws (pairW (curL ws t))

theorem curL_lev (ws : List Nat) (h : Up ws) (t : Nat) : curL ws (t + 1) = (lev ws t).map (·.1) := by
  induction t with
  | zero => exact up_eq (putAll_up _ _ h) (lev_up ws h 0) ((putAll_perm _ _).trans (mg_perm ws []).symm)
  | succ t ih =>
    have e : curL ws (t + 1 + 1) = putAll ws (pairW ((lev ws t).map (·.1))) := by rw [← ih]; rfl
    rw [e]
    exact up_eq (putAll_up _ _ h) (lev_up ws h (t + 1)) ((putAll_perm _ _).trans (mg_perm ws _).symm)

theorem insW_length (x : Nat) (l : List Nat) : (insW x l).length = l.length + 1 := by simpa using (insW_perm x l).length_eq

/-- append of whatever source of ints. -/
theorem wpList_append_src {ops : Array Oper} {rest : List Oper} {o : Oper} {a : Act} {Q : Exit → Act → World → Prop} (w : World) (B : Nat) (hgd : o.guard = none) (s x : Operand)
    (ho : o.op = .call { callee := .builtin .append, args := #[s, x], argTypes := #[22, 22] })
    (v : Value) (xs : List Nat) (hs : a.eval s = v) (hrow : NRow B w v xs) (I : Nat → Prop) (ad : Addr) (n c : Nat) (cs : List Nat) (hx : a.eval x = .slice (some ad) n c) (hsrc : SrcE natV w I (.slice (some ad) n c) cs) (hlen : xs.length + cs.length ≤ 1000000000) (hB : B ≤ w.heap.size)
    (h : ∀ v' w', NRow B w' v' (xs ++ cs) → w.grownBy w' v.ownBlock → wpList Try.prog ops Q rest (a.put o.dst v') w') : wpList Try.prog ops Q (o :: rest) a w := by
  obtain ⟨hn, hat⟩ := hsrc.at
  refine wpList_append_e w natV natV_one B 22 3 (natV 0) 8 Try.underlying22 Try.infoN rfl (by decide) hgd s x ho v xs hs hrow ad n c cs hx hn.symm ?_ hlen hB h
  by_cases h0 : cs = []
  · subst h0; intro j u hu; simp at hu
  · obtain ⟨a', e, hb⟩ := hat h0
    injection e with e
    subst e
    exact hb

theorem SrcE.part {w : World} {I : Nat → Prop} {b o cap : Nat} {l : List Nat} (h : SrcE natV w I (.slice (some ⟨b, o, none⟩) l.length cap) l) (k : Nat) (hk : k ≤ l.length) : SrcE natV w I (.slice (some ⟨b, o, none⟩) k cap) (l.take k) := by
  obtain ⟨ao, cap', e, hc, hcell⟩ := h
  simp only [Value.slice.injEq] at e
  obtain ⟨rfl, _, rfl⟩ := e
  refine ⟨_, _, by rw [List.length_take, Nat.min_eq_left hk], by rw [List.length_take]; omega, fun hne => ?_⟩
  obtain ⟨b', o', e, h1, h2⟩ := hcell (by intro e; subst e; simp at hne)
  refine ⟨b', o', e, h1, fun j hj => ?_⟩
  rw [List.length_take] at hj
  rw [h2 j (by omega), List.getElem_take]

theorem SrcE.tail {w : World} {I : Nat → Prop} {b o cap : Nat} {l : List Nat} (h : SrcE natV w I (.slice (some ⟨b, o, none⟩) l.length cap) l) (k px : Nat) (hk : k ≤ l.length) (hp : k < l.length → px = o + k) : SrcE natV w I (.slice (some ⟨b, px, none⟩) (l.length - k) (cap - k)) (l.drop k) := by
  obtain ⟨ao, cap', e, hc, hcell⟩ := h
  simp only [Value.slice.injEq] at e
  obtain ⟨rfl, _, rfl⟩ := e
  refine ⟨_, _, by rw [List.length_drop], by rw [List.length_drop]; omega, fun hne => ?_⟩
  have hkl : k < l.length := by
    rcases Nat.lt_or_ge k l.length with h | h
    · exact h
    · rw [List.drop_eq_nil_of_le h] at hne; exact absurd rfl hne
  obtain ⟨b', o', e, h1, h2⟩ := hcell (by intro e; subst e; simp at hne)
  simp only [Option.some.injEq, Addr.mk.injEq, and_true] at e
  obtain ⟨rfl, rfl⟩ := e
  refine ⟨b, px, rfl, h1, fun j hj => ?_⟩
  rw [List.length_drop] at hj
  rw [hp hkl, Nat.add_assoc, h2 (k + j) (by omega), List.getElem_drop]

set_option maxRecDepth 100000 in
set_option maxHeartbeats 2000000 in
theorem with_some (w : World) (b o cap : Nat) (I : Nat → Prop) (l : List Nat) (x : Nat) (hs : SrcE natV w I (.slice (some ⟨b, o, none⟩) l.length cap) l) (hl : l.length ≤ 100000) (hI : ∀ k, I k → k < w.heap.size) :
    Calls Try.prog 39 #[.slice (some ⟨b, o, none⟩) l.length cap, .int .i64 (x : Nat)] w fun e w' => ∃ v', e = .returned v' ∧ New w w' v' (insW x l) := by
  have HS : Hid (SrcE natV w I (.slice (some ⟨b, o, none⟩) l.length cap) l) := hs
  have hcap : l.length ≤ cap := by
    obtain ⟨_, _, e, h, _⟩ := hs
    simp only [Value.slice.injEq] at e
    omega
  have HI : Hid (∀ k, I k → k < w.heap.size) := hI
  clear hs hI
  obtain ⟨L, hL⟩ : ∃ L, L = l.length := ⟨_, rfl⟩
  have HL : Hid (L = l.length) := hL
  rw [← hL] at hl hcap HS ⊢
  clear hL
  go_enter Try.func39, Try.ntmps39
  go_wp2_with fail
  go_loopg [5] L (fun q zk wr => ∃ k : Nat, L - k ≤ q ∧ k ≤ L ∧ zk = .int .i64 (k : Nat) ∧ wr = w ∧ Hid (∀ j (_ : j < l.length), j < k → l[j] ≤ x))
  case atStart => exact ⟨0, by omega, by omega, rfl, rfl, hid (fun j _ h => by omega)⟩
  case round =>
    obtain ⟨k, hq, hk, rfl, rfl, HF⟩ := hrel
    have done : (∀ h : k < l.length, ¬ l[k] ≤ x) → insW x l = l.take k ++ x :: l.drop k := fun h => insW_at x l k HF.out (by have := HL.out; omega) h
    have HT : Hid (SrcE natV wr I (.slice (some ⟨b, o, none⟩) k cap) (l.take k)) := hid (by have h := HS.out; rw [HL.out] at h; exact h.part k (by have := HL.out; omega))
    have HTL : Hid (((l.take k).length = k) ∧ ((l.drop k).length = L - k)) := hid ⟨by rw [List.length_take]; have := HL.out; omega, by rw [List.length_drop, HL.out]⟩
    by_cases hlt : k < L
    · have hkl : k < l.length := by have := HL.out; omega
      obtain ⟨b2, o2, cap2, e2, _, _, c2⟩ := (show SrcE natV wr I (.slice (some ⟨b, o, none⟩) l.length cap) l by have h := HS.out; rw [HL.out] at h; exact h).get k hkl
      simp only [Value.slice.injEq, Option.some.injEq, Addr.mk.injEq, and_true] at e2
      obtain ⟨⟨rfl, rfl⟩, hxe, rfl⟩ := e2
      clear hxe
      obtain ⟨y, hy⟩ : ∃ y, y = l[k] := ⟨_, rfl⟩
      rw [← hy] at c2
      unfold natV at c2
      have bd0 : decide (k < L) = true := by simp [hlt]
      by_cases hle : y ≤ x
      · have bd1 : decide (y ≤ x) = true := by simp [hle]
        have HF2 : Hid (∀ j (_ : j < l.length), j < k + 1 → l[j] ≤ x) := hid (fun j hj hjk => by
          by_cases e : j = k
          · subst e; rw [← hy]; exact hle
          · exact HF.out j hj (by omega))
        clear hy done hle
        go_wp2_with fail
        go_roundg (gk - 1)
        case measure => omega
        case rel => exact ⟨k + 1, by omega, by omega, by go_num, rfl, HF2⟩
      · have bd1 : decide (y ≤ x) = false := by simp; omega
        have HD : Hid (insW x l = l.take k ++ x :: l.drop k) := hid (done (fun h => by rw [← hy]; exact hle))
        clear hy done hle
        have hkc : k < cap := by omega
        have HDR : Hid (SrcE natV wr I (.slice (some ⟨b, o + k, none⟩) (L - k) (cap - k)) (l.drop k)) := hid (by have h := HS.out; rw [HL.out] at h ⊢; exact h.tail k (o + k) (by omega) (fun _ => rfl))
        go_wp2_with (first | (at_builtin; refine wpList_append_src _ wr.heap.size rfl (.tmp 21) (.tmp 24) rfl (.slice none 0 0) [] rfl RowE.nil I ⟨b, o, none⟩ k cap (l.take k) rfl HT.out (by have := HTL.out.1; simp; omega) (Nat.le_refl _) ?_; intro v1 w1 hr1 hg1; have HR1 : Hid (NRow wr.heap.size w1 v1 (l.take k)) := hid (by simpa using hr1); have HK1 : Hid (Same wr w1) := hid ((Kept.refl _ wr).grown hg1 (fun j e => by cases e)); have hs1 := HK1.out.size; clear hr1 hg1) | (at_builtin; refine wpList_append_e _ natV natV_one wr.heap.size 22 3 (natV 0) 8 Try.underlying22 Try.infoN rfl (by decide) rfl (.tmp 26) (.tmp 28) rfl v1 (l.take k) rfl (World.ownsRow.alloc HR1.out _) ⟨w1.heap.size, 0, none⟩ 1 1 [x] rfl rfl (cellsAt_new _ _ _) (by have := HTL.out.1; simp; omega) (by simp; omega) ?_; intro v2 w2 hr2 hg2; have HR2 : Hid (NRow wr.heap.size w2 v2 (l.take k ++ [x])) := hr2; have HK2 : Hid (Same wr w2) := hid (Kept.grown (HK1.out.alloc _) hg2 (fun j e => .inr (HR1.out.ge e))); have hs2 := HK2.out.size; clear hr2 hg2) | (at_builtin; refine wpList_append_src _ wr.heap.size rfl (.tmp 30) (.tmp 33) rfl v2 (l.take k ++ [x]) rfl HR2.out I ⟨b, o + k, none⟩ (L - k) (cap - k) (l.drop k) rfl (HDR.out.same HK2.out) (by have h1 := HTL.out.1; have h2 := HTL.out.2; rw [List.length_append, h1, h2]; simp; omega) (by omega) ?_; intro v3 w3 hr3 hg3; have HN : Hid (New wr w3 v3 (insW x l)) := hid ⟨by rw [HD.out]; simpa using hr3, Kept.grown HK2.out hg3 (fun j e => .inr (HR2.out.ge e))⟩; clear hr3 hg3))
        go_ret
        exact ⟨_, rfl, HN.out⟩
    · have hkL : k = L := by omega
      have bd0 : decide (k < L) = false := by simp; omega
      have HD : Hid (insW x l = l.take k ++ x :: l.drop k) := hid (done (fun h => by have := HL.out; omega))
      clear done
      by_cases hc : cap = k
      · have hc0 : cap - k = 0 := by omega
        have HDR : Hid (SrcE natV wr I (.slice (some ⟨b, o, none⟩) (L - k) 0) (l.drop k)) := hid (by have h := HS.out; rw [HL.out] at h ⊢; have h2 := h.tail k o (by have := HL.out; omega) (fun h => by have := HL.out; omega); rw [hc0] at h2; exact h2)
        clear hkL hc
        go_wp2_with (first | (at_builtin; refine wpList_append_src _ wr.heap.size rfl (.tmp 21) (.tmp 24) rfl (.slice none 0 0) [] rfl RowE.nil I ⟨b, o, none⟩ k cap (l.take k) rfl HT.out (by have := HTL.out.1; simp; omega) (Nat.le_refl _) ?_; intro v1 w1 hr1 hg1; have HR1 : Hid (NRow wr.heap.size w1 v1 (l.take k)) := hid (by simpa using hr1); have HK1 : Hid (Same wr w1) := hid ((Kept.refl _ wr).grown hg1 (fun j e => by cases e)); have hs1 := HK1.out.size; clear hr1 hg1) | (at_builtin; refine wpList_append_e _ natV natV_one wr.heap.size 22 3 (natV 0) 8 Try.underlying22 Try.infoN rfl (by decide) rfl (.tmp 26) (.tmp 28) rfl v1 (l.take k) rfl (World.ownsRow.alloc HR1.out _) ⟨w1.heap.size, 0, none⟩ 1 1 [x] rfl rfl (cellsAt_new _ _ _) (by have := HTL.out.1; simp; omega) (by simp; omega) ?_; intro v2 w2 hr2 hg2; have HR2 : Hid (NRow wr.heap.size w2 v2 (l.take k ++ [x])) := hr2; have HK2 : Hid (Same wr w2) := hid (Kept.grown (HK1.out.alloc _) hg2 (fun j e => .inr (HR1.out.ge e))); have hs2 := HK2.out.size; clear hr2 hg2) | (at_builtin; refine wpList_append_src _ wr.heap.size rfl (.tmp 30) (.tmp 33) rfl v2 (l.take k ++ [x]) rfl HR2.out I ⟨b, o, none⟩ (L - k) 0 (l.drop k) rfl (HDR.out.same HK2.out) (by have h1 := HTL.out.1; have h2 := HTL.out.2; rw [List.length_append, h1, h2]; simp; omega) (by omega) ?_; intro v3 w3 hr3 hg3; have HN : Hid (New wr w3 v3 (insW x l)) := hid ⟨by rw [HD.out]; simpa using hr3, Kept.grown HK2.out hg3 (fun j e => .inr (HR2.out.ge e))⟩; clear hr3 hg3))
        go_ret
        exact ⟨_, rfl, HN.out⟩
      · have hkc : k < cap := by omega
        have HDR : Hid (SrcE natV wr I (.slice (some ⟨b, o + k, none⟩) (L - k) (cap - k)) (l.drop k)) := hid (by have h := HS.out; rw [HL.out] at h ⊢; exact h.tail k (o + k) (by have := HL.out; omega) (fun _ => rfl))
        clear hkL
        go_wp2_with (first | (at_builtin; refine wpList_append_src _ wr.heap.size rfl (.tmp 21) (.tmp 24) rfl (.slice none 0 0) [] rfl RowE.nil I ⟨b, o, none⟩ k cap (l.take k) rfl HT.out (by have := HTL.out.1; simp; omega) (Nat.le_refl _) ?_; intro v1 w1 hr1 hg1; have HR1 : Hid (NRow wr.heap.size w1 v1 (l.take k)) := hid (by simpa using hr1); have HK1 : Hid (Same wr w1) := hid ((Kept.refl _ wr).grown hg1 (fun j e => by cases e)); have hs1 := HK1.out.size; clear hr1 hg1) | (at_builtin; refine wpList_append_e _ natV natV_one wr.heap.size 22 3 (natV 0) 8 Try.underlying22 Try.infoN rfl (by decide) rfl (.tmp 26) (.tmp 28) rfl v1 (l.take k) rfl (World.ownsRow.alloc HR1.out _) ⟨w1.heap.size, 0, none⟩ 1 1 [x] rfl rfl (cellsAt_new _ _ _) (by have := HTL.out.1; simp; omega) (by simp; omega) ?_; intro v2 w2 hr2 hg2; have HR2 : Hid (NRow wr.heap.size w2 v2 (l.take k ++ [x])) := hr2; have HK2 : Hid (Same wr w2) := hid (Kept.grown (HK1.out.alloc _) hg2 (fun j e => .inr (HR1.out.ge e))); have hs2 := HK2.out.size; clear hr2 hg2) | (at_builtin; refine wpList_append_src _ wr.heap.size rfl (.tmp 30) (.tmp 33) rfl v2 (l.take k ++ [x]) rfl HR2.out I ⟨b, o + k, none⟩ (L - k) (cap - k) (l.drop k) rfl (HDR.out.same HK2.out) (by have h1 := HTL.out.1; have h2 := HTL.out.2; rw [List.length_append, h1, h2]; simp; omega) (by omega) ?_; intro v3 w3 hr3 hg3; have HN : Hid (New wr w3 v3 (insW x l)) := hid ⟨by rw [HD.out]; simpa using hr3, Kept.grown HK2.out hg3 (fun j e => .inr (HR2.out.ge e))⟩; clear hr3 hg3))
        go_ret
        exact ⟨_, rfl, HN.out⟩

/-- append of a nil slice. -/
theorem wpList_append_nothing {ops : Array Oper} {rest : List Oper} {o : Oper} {a : Act} {Q : Exit → Act → World → Prop} (w : World) (B : Nat) (hgd : o.guard = none) (s x : Operand)
    (ho : o.op = .call { callee := .builtin .append, args := #[s, x], argTypes := #[22, 22] })
    (v : Value) (xs : List Nat) (hs : a.eval s = v) (hrow : NRow B w v xs) (hx : a.eval x = .slice none 0 0) (h : wpList Try.prog ops Q rest (a.put o.dst v) w) : wpList Try.prog ops Q (o :: rest) a w := by
  obtain ⟨i0, hi, hz0, hz1, hz2⟩ := info_parts Try.infoN
  refine wpList_plain hgd fun K hK => ?_
  have hr := run_append_owned_none (P := Try.prog) w B 22 o.type 3 i0 1 Try.underlying22 hi v xs.length (xs.map natV) hrow
  unfold Oper.wp execOp
  simp only [ho, resolve, invoke, builtin, Sem.run_bind, Sem.run_pure, Result.andThen_ok, List.map_toArray, List.map_cons, List.map_nil, hs, hx, hr]
  exact hK _ _ h

set_option maxHeartbeats 1000000 in
theorem with_none (w : World) (x : Nat) : Calls Try.prog 39 #[.slice none 0 0, .int .i64 (x : Nat)] w fun e w' => ∃ v', e = .returned v' ∧ New w w' v' (insW x []) := by
  go_enter Try.func39, Try.ntmps39
  go_wp2_with fail
  go_loopg [5] 1 (fun _ zk wr => zk = .int .i64 0 ∧ wr = w)
  case atStart => exact ⟨rfl, rfl⟩
  case round =>
    obtain ⟨rfl, rfl⟩ := hrel
    go_wp2_with (first | (at_builtin; refine wpList_append_nothing _ wr.heap.size rfl (.tmp 21) (.tmp 24) rfl (.slice none 0 0) [] rfl RowE.nil rfl ?_) | (at_builtin; refine wpList_append_e _ natV natV_one wr.heap.size 22 3 (natV 0) 8 Try.underlying22 Try.infoN rfl (by decide) rfl (.tmp 26) (.tmp 28) rfl (.slice none 0 0) [] rfl RowE.nil ⟨wr.heap.size, 0, none⟩ 1 1 [x] rfl rfl (cellsAt_new _ _ _) (by simp) (by simp) ?_; intro v2 w2 hr2 hg2; have HR2 : Hid (NRow wr.heap.size w2 v2 ([] ++ [x])) := hr2; have HK2 : Hid (Same wr w2) := hid (Kept.grown ((Kept.refl _ wr).alloc _) hg2 (fun j e => by cases e)); clear hr2 hg2) | (at_builtin; refine wpList_append_nothing _ wr.heap.size rfl (.tmp 30) (.tmp 33) rfl v2 ([] ++ [x]) rfl HR2.out rfl ?_))
    go_ret
    exact ⟨_, rfl, ⟨by simpa [insW] using HR2.out, HK2.out⟩⟩

end Go.Proofs.Ytddjbofdepamhaa
