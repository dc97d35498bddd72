/-
  Of the proof: parts Reader, Ref, Ref2, Lend, Of, LnHead.
-/
import Derived.Test.YtofhlnpbflkdlaaDoorJ5
import Derived.Test.YtofhlnpbflkdlaaDoorJ1
import Derived.Test.YtofhlnpbflkdlaaDoorJ2
import Derived.Test.YtofhlnpbflkdlaaDoorJ3
import Derived.Test.YtofhlnpbflkdlaaDoorJ4

/-
  The reader's calls; the writer's Bytes; two rows of bytes held against one another.
-/
namespace Go.Proofs.YtofhlnpbflkdlaaDoor
open Go.RowKit

theorem ret_int {k : IntKind} {a b : Int} (h : a = b) : Ending.returned (.int k a) = .returned (.int k b) := by rw [h]

theorem left_nil (w : World) :
    Calls Tryd.prog 29 #[.pointer none] w fun e w' => e = .returned (.int .i64 0) ∧ w' = w := by
  go_enter Tryd.func29, Tryd.ntmps29
  go_wp2
  go_ret
  exact ⟨rfl, rfl⟩

theorem left_any (p c : Nat) (s : Value) (bs : List Nat) (w : World) (h : St w p s bs c) (hc : c ≤ 8 * bs.length) (hlen : bs.length ≤ 100000000000) :
    Calls Tryd.prog 29 #[.pointer (some ⟨p, 0, none⟩)] w fun e w' => e = .returned (.int .i64 ((8 * bs.length - c : Nat) : Int)) ∧ ∃ m, w' = w.drewN m := by
  obtain ⟨ao, cap, hv, _⟩ := h.row.shape
  have hcb := h.cb
  have hcc := h.cc
  rw [hv] at hcb
  clear h hv
  go_enter Tryd.func29, Tryd.ntmps29
  go_wp2
  go_quiet (fail)
  go_wp2
  go_ret
  exact ⟨ret_int (by omega), _, rfl⟩

theorem gone_nil (w : World) :
    Calls Tryd.prog 28 #[.pointer none] w fun e w' => e = .returned (.int .i64 0) ∧ w' = w := by
  go_enter Tryd.func28, Tryd.ntmps28
  go_wp2
  go_ret
  exact ⟨rfl, rfl⟩

theorem gone_any (p c : Nat) (s : Value) (bs : List Nat) (w : World) (h : St w p s bs c) :
    Calls Tryd.prog 28 #[.pointer (some ⟨p, 0, none⟩)] w fun e w' => e = .returned (.int .i64 (c : Nat)) ∧ w' = w := by
  have hcc := h.cc
  clear h
  go_enter Tryd.func28, Tryd.ntmps28
  go_wp2
  go_ret
  exact ⟨rfl, rfl⟩

theorem back_nil (n : Int) (w : World) :
    Calls Tryd.prog 53 #[.pointer none, .int .i64 n] w fun e w' => e = .returned (.int .i64 3) ∧ w' = w := by
  go_enter Tryd.func53, Tryd.ntmps53
  go_wp2
  go_ret
  exact ⟨rfl, rfl⟩

theorem back_bad (p c : Nat) (n : Int) (s : Value) (bs : List Nat) (w : World) (h : St w p s bs c) (hn : n < 0 ∨ (c : Int) < n) :
    Calls Tryd.prog 53 #[.pointer (some ⟨p, 0, none⟩), .int .i64 n] w fun e w' => e = .returned (.int .i64 1) ∧ w' = w := by
  have hcc := h.cc
  clear h
  by_cases h0 : n < 0
  · clear hn
    go_enter Tryd.func53, Tryd.ntmps53
    go_wp2
    go_ret
    exact ⟨rfl, rfl⟩
  · have h1 : (c : Int) < n := by omega
    clear hn
    go_enter Tryd.func53, Tryd.ntmps53
    go_wp2
    go_ret
    exact ⟨rfl, rfl⟩

theorem back_good (p c n : Nat) (s : Value) (bs : List Nat) (w : World) (h : St w p s bs c) (hn : n ≤ c) (hc : c ≤ 1000000000000) :
    Calls Tryd.prog 53 #[.pointer (some ⟨p, 0, none⟩), .int .i64 (n : Nat)] w fun e w' => e = .returned (.int .i64 0) ∧ St w' p s bs (c - n) ∧ Kept (· = p) w w' := by
  have hcc := h.cc
  have hfc := h.fc
  have HS : Hid (St w p s bs c) := h
  clear h
  go_enter Tryd.func53, Tryd.ntmps53
  go_wp2
  go_ret
  refine ⟨rfl, ?_, (Kept.refl _ w).setCell _ _ (.inl rfl)⟩
  have := HS.out.setCount (c - n)
  rw [show ((c - n : Nat) : Int) = (c : Int) - (n : Int) by omega] at this
  exact this





theorem take_nil (n : Int) (w : World) :
    Calls Tryd.prog 31 #[.pointer none, .int .i64 n] w fun e w' => e = .returned (.tuple #[.int .u32 0, .int .i64 3]) ∧ w' = w := by
  go_enter Tryd.func31, Tryd.ntmps31
  go_wp2
  go_ret2
  exact ⟨rfl, rfl⟩

theorem take_far (p : Nat) (n : Int) (w : World) (h : ¬ (0 ≤ n ∧ n ≤ 32)) :
    Calls Tryd.prog 31 #[.pointer (some ⟨p, 0, none⟩), .int .i64 n] w fun e w' => e = .returned (.tuple #[.int .u32 0, .int .i64 1]) ∧ w' = w := by
  have hd : decide (0 ≤ n ∧ n ≤ 32) = false := by simpa using h
  clear h
  go_enter Tryd.func31, Tryd.ntmps31
  go_wp2_with (go_at_call 42; refine (fits_any _ _).mono ?_; rintro e w' ⟨rfl, rfl⟩; rw [hd])
  go_ret2
  exact ⟨rfl, rfl⟩

set_option maxHeartbeats 400000 in
theorem take_end (p c n : Nat) (s : Value) (bs : List Nat) (w : World) (h : St w p s bs c) (hc : c ≤ 8 * bs.length) (hlen : bs.length ≤ 100000000000) (hn : n ≤ 32) (hm : 8 * bs.length < c + n) :
    Calls Tryd.prog 31 #[.pointer (some ⟨p, 0, none⟩), .int .i64 (n : Nat)] w fun e w' => e = .returned (.tuple #[.int .u32 0, .int .i64 10]) ∧ ∃ m, w' = w.drewN m := by
  have hd : decide (0 ≤ (n : Int) ∧ (n : Int) ≤ 32) = true := by simp; omega
  have hh : ((8 * bs.length - c : Nat) : Int) < (n : Int) := by omega
  have HC := left_any p c s bs w h hc hlen
  obtain ⟨q, hq⟩ : ∃ q, q = 8 * bs.length - c := ⟨_, rfl⟩
  rw [← hq] at HC hh
  clear h hc hlen hm hq
  go_enter Tryd.func31, Tryd.ntmps31
  go_wp2_with (first | (go_at_call 42; refine (fits_any _ _).mono ?_; rintro e w' ⟨rfl, rfl⟩; rw [hd]) | (go_at_call 29; refine HC.mono ?_; rintro e w' ⟨rfl, mq, rfl⟩))
  go_ret2
  exact ⟨rfl, _, rfl⟩

set_option maxHeartbeats 400000 in
theorem take_good (p c n : Nat) (s : Value) (bs : List Nat) (w : World) (h : St w p s bs c) (hlen : bs.length ≤ 100000000000) (hn : n ≤ 32) (hm : c + n ≤ 8 * bs.length) :
    Calls Tryd.prog 31 #[.pointer (some ⟨p, 0, none⟩), .int .i64 (n : Nat)] w fun e w' => e = .returned (.tuple #[.int .u32 (n256 bs / 2 ^ c % 2 ^ n : Nat), .int .i64 0]) ∧
      St w' p s bs (c + n) ∧ Kept (· = p) w w' := by
  have hd : decide (0 ≤ (n : Int) ∧ (n : Int) ≤ 32) = true := by simp; omega
  have hh : ¬ ((8 * bs.length - c : Nat) : Int) < (n : Int) := by omega
  have HC := left_any p c s bs w h (by omega) hlen
  have HD := fun m => cut_any (w.drewN m) p s bs c n (h.drewN m) hn hm hlen
  obtain ⟨q, hq⟩ : ∃ q, q = 8 * bs.length - c := ⟨_, rfl⟩
  rw [← hq] at HC hh
  clear h hlen hm hq
  go_enter Tryd.func31, Tryd.ntmps31
  go_wp2_with (first | (go_at_call 42; refine (fits_any _ _).mono ?_; rintro e w' ⟨rfl, rfl⟩; rw [hd]) | (go_at_call 29; refine HC.mono ?_; rintro e w' ⟨rfl, mq, rfl⟩) | (go_at_call 54; refine (HD mq).mono ?_; rintro e w' ⟨rfl, hs', hk'⟩))
  go_ret2
  exact ⟨rfl, hs', ⟨hk'.os, hk'.tape, hk'.output, hk'.size, hk'.block⟩⟩



set_option maxHeartbeats 400000 in
theorem newReader_any (v : Value) (I : Nat → Prop) (cs : List Nat) (w : World) (h : Src w I v cs) (hlen : cs.length ≤ 100000000000) (hb : ∀ b ∈ cs, b < 256) :
    Calls Tryd.prog 30 #[v] w fun e w' => ∃ p s, e = .returned (.pointer (some ⟨p, 0, none⟩)) ∧ St w' p s cs 0 ∧ Kept (fun _ => False) w w' ∧ (∀ k, Fp p s k → w.heap.size ≤ k) := by
  obtain ⟨ao, cap, rfl, hsrc⟩ := id h
  have HS : Hid (Src w I (.slice ao cs.length cap) cs) := h
  clear h hsrc
  go_enter Tryd.func30, Tryd.ntmps30
  go_wp2_with (first | (at_make; refine wpList_make_bytes _ rfl _ _ rfl _ _ _ _ cs.length rfl rfl rfl rfl (by omega) ?_; intro w1 hr1 hg1 hs1; have HR : Hid (Row w1 (.slice (some ⟨w.heap.size, 0, none⟩) cs.length cs.length) (List.replicate cs.length 0)) := hr1; have HK : Hid (Kept (fun _ => False) w w1) := (Kept.refl _ w).grown hg1 (by simp); clear hr1 hg1) | (with_reducible refine atCopy ?_; refine wpList_copy_bytes _ rfl (.tmp 12) (.tmp 13) rfl w.heap.size cs.length cs.length ao cs.length cap (List.replicate cs.length 0) cs I rfl rfl (World.ownsRow.alloc HR.out _) (HS.out.kept (HK.out.alloc _) (fun _ _ _ h => h)) (by simp) ?_; intro w2 hr2 hg2 hs2))
  go_ret
  have hk2 : Kept (· = w.heap.size) (w1.alloc (.cells #[.slice (some ⟨w.heap.size, 0, none⟩) cs.length cs.length, .int .i64 0] 84)) w2 := (Kept.refl _ _).grown hg2 (fun k e => .inl (by simpa using e.symm))
  have hne : ¬ w1.heap.size = w.heap.size := by omega
  refine ⟨w1.heap.size, .slice (some ⟨w.heap.size, 0, none⟩) cs.length cs.length, rfl, ⟨hk2.cell (by simp) hne, hk2.cell (by simp) hne, (hk2.frozen (by simp) hne).trans (by simp), (hk2.frozen (by simp) hne).trans (by simp), ?_, by simp [Value.ownBlock]; omega, hb⟩, ?_, ?_⟩
  · simpa using hr2
  · exact Kept.trans (H := fun _ => False) (HK.out.alloc _) hk2 (fun _ _ h => h) (fun x hx e => by omega)
  · intro k hk
    rcases hk with rfl | hk
    · exact HK.out.size
    · simp [Value.ownBlock] at hk; omega

set_option maxHeartbeats 400000 in
theorem wbytes_any (p X c : Nat) (s : Value) (w : World) (h : Wr w p s X c) (hc : c ≤ 100000000000) :
    Calls Tryd.prog 24 #[.pointer (some ⟨p, 0, none⟩)] w fun e w' => ∃ g bs, e = .returned (.slice (some ⟨g, 0, none⟩) bs.length bs.length) ∧ Row w' (.slice (some ⟨g, 0, none⟩) bs.length bs.length) bs ∧ (∀ b ∈ bs, b < 256) ∧
      n256 bs = X ∧ bs.length = (c + 7) / 8 ∧ Kept (fun _ => False) w w' ∧ w.heap.size ≤ g := by
  obtain ⟨bs, hst, hX, hlo, hhi⟩ := h.ex
  obtain ⟨ao, cap, hv, _⟩ := hst.row.shape
  have hcb := hst.cb
  have hcb1 : ∀ w1, Kept (fun _ => False) w w1 → w1.cell? ⟨p, 0, none⟩ = some (.slice ao bs.length cap) := fun w1 hk => hk.cell (by rw [hcb, hv]) (fun h => h)
  rw [hv] at hcb
  have HS : Hid (Src w (fun k => (Value.slice ao bs.length cap).ownBlock = some k) (.slice ao bs.length cap) bs) := by have := Src.ofRow hst.row; rw [hv] at this; exact this
  have HB : Hid (∀ b ∈ bs, b < 256) := hst.byte
  have HX : Hid (n256 bs = X) := hX
  have hlen : bs.length ≤ 100000000000 := by omega
  have HL : Hid (bs.length = (c + 7) / 8) := by show _ = _; omega
  clear h hst hX hlo hhi hc hv
  go_enter Tryd.func24, Tryd.ntmps24
  go_wp2_with (first | (at_make; refine wpList_make_bytes _ rfl _ _ rfl _ _ _ _ bs.length rfl rfl rfl rfl (by omega) ?_; intro w1 hr1 hg1 hs1; have HR : Hid (Row w1 (.slice (some ⟨w.heap.size, 0, none⟩) bs.length bs.length) (List.replicate bs.length 0)) := hr1; have HK : Hid (Kept (fun _ => False) w w1) := (Kept.refl _ w).grown hg1 (by simp); have hcb2 := hcb1 w1 HK.out; clear hr1 hg1) | (with_reducible refine atCopy ?_; refine wpList_copy_bytes _ rfl (.tmp 12) (.tmp 16) rfl w.heap.size bs.length bs.length ao bs.length cap (List.replicate bs.length 0) bs _ rfl rfl HR.out (HS.out.kept HK.out (fun _ _ _ h => h)) (by simp) ?_; intro w2 hr2 hg2 hs2))
  go_ret
  refine ⟨w.heap.size, bs, rfl, by simpa using hr2, HB.out, HX.out, HL.out, ?_, Nat.le_refl _⟩
  refine HK.out.grown hg2 (fun k e => .inr ?_)
  simp at e; omega



end Go.Proofs.YtofhlnpbflkdlaaDoor

/-
  The reference's calls on rows of bits; what is written over.
-/
namespace Go.Proofs.YtofhlnpbflkdlaaDoor
open Go.RowKit

/-- A row that came from another row by appending: what is known of it. -/
structure Grows (w w' : World) (v v' : Value) (bs : List Nat) : Prop where
  row : Row w' v' bs
  kept : Kept (fun k => v.ownBlock = some k) w w'
  own : Grew w v v'

theorem Grows.refl {w : World} {v : Value} {bs : List Nat} (h : Row w v bs) : Grows w w v v bs := ⟨h, Kept.refl _ _, .inl rfl⟩

/-- One byte more. -/
theorem Grows.app {w wr w1 : World} {v v1 v' : Value} {bs : List Nat} {x : Nat} {o : Obj} (h : Grows w wr v v1 bs) (hrow : Row w1 v' (bs ++ [x])) (hg : (wr.alloc o).grownBy w1 v1.ownBlock) (ho : v'.ownBlock = v1.ownBlock ∨ v'.ownBlock = some (wr.alloc o).heap.size) : Grows w w1 v v' (bs ++ [x]) := by
  have hsz := h.kept.size
  refine ⟨hrow, ?_, ?_⟩
  · refine Kept.grown (h.kept.alloc o) hg (fun k e => ?_)
    rcases h.own with e' | e'
    · exact .inl (by rw [← e', e])
    · exact .inr (e' k e)
  · rcases ho with e | e
    · rcases h.own with e' | e'
      · exact .inl (by rw [e, e'])
      · exact .inr (fun k hk => e' k (by rw [← e, hk]))
    · refine .inr (fun k hk => ?_)
      rw [e] at hk
      simp at hk
      omega



/-- How many noughts Align lays. -/
def gap (n : Nat) : Nat := (n + 7) / 8 * 8 - n



end Go.Proofs.YtofhlnpbflkdlaaDoor

/-
  The reference's Bytes; what is written over.
-/
namespace Go.Proofs.YtofhlnpbflkdlaaDoor
open Go.RowKit

theorem Grows.ofNil {w wr : World} {v v' : Value} {bs : List Nat} (h : Grows w wr v v' bs) (hv : v.ownBlock = none) : Kept (fun _ => False) w wr ∧ ∀ k, v'.ownBlock = some k → w.heap.size ≤ k := by
  refine ⟨h.kept.mono (fun x _ e => by rw [hv] at e; cases e), fun k hk => ?_⟩
  rcases h.own with e | e
  · rw [e, hv] at hk; cases hk
  · exact e k hk



/-- A byte of a row is written. -/
theorem Row.set {w : World} {g n cap : Nat} {ds : List Nat} (h : Row w (.slice (some ⟨g, 0, none⟩) n cap) ds) (j x : Nat) : Row (w.setCell ⟨g, j, none⟩ (.int .u8 x)) (.slice (some ⟨g, 0, none⟩) n cap) (ds.set j x) := by
  have hl : ds.length = n := by
    rcases h.2 with ⟨e, _⟩ | ⟨_, _, _, e, _⟩
    · simp at e
    · injection e with _ e _; exact e.symm
  subst hl
  have := (World.ownsRow.stored h j (.int .u8 x)).1
  rw [show (Value.int .u8 x) = byteV x from rfl, ← List.map_set] at this
  unfold Row
  rw [List.length_set]
  exact this



end Go.Proofs.YtofhlnpbflkdlaaDoor

/-
  What is lent and comes back; a reader's More; the bits of bytes.
-/
namespace Go.Proofs.YtofhlnpbflkdlaaDoor
open Go.RowKit

/-- append of whatever source of bytes. -/
theorem wpList_append_src {ops : Array Oper} {rest : List Oper} {o : Oper} {a : Act} {Q : Exit → Act → World → Prop} (w : World) (hgd : o.guard = none) (s x : Operand)
    (ho : o.op = .call { callee := .builtin .append, args := #[s, x], argTypes := #[43, 43] })
    (v : Value) (bs : List Nat) (hs : a.eval s = v) (hrow : Row w v bs) (I : Nat → Prop) (xv : Value) (cs : List Nat) (hx : a.eval x = xv) (hnil : ∀ n c, xv = .slice none n c → n = 0 ∧ c = 0) (hsrc : Src w I xv cs) (hlen : bs.length + cs.length ≤ 1000000000000)
    (h : ∀ v' w', Row w' v' (bs ++ cs) → w.grownBy w' v.ownBlock → (v'.ownBlock = v.ownBlock ∨ v'.ownBlock = some w.heap.size) → wpList Tryd.prog ops Q rest (a.put o.dst v') w') : wpList Tryd.prog ops Q (o :: rest) a w := by
  obtain ⟨ao, cap, rfl, hc⟩ := id hsrc
  cases ao with
  | some ad =>
    refine wpList_append_row w hgd s x ho v bs hs hrow ad cs.length cap cs hx rfl ?_ hlen h
    by_cases h0 : cs = []
    · subst h0; intro j u hu; simp at hu
    · obtain ⟨a', e, hb⟩ := (Src.at hsrc).2 h0
      injection e with e
      subst e
      exact hb
  | none =>
    obtain ⟨h0, h1⟩ := hnil _ _ rfl
    have hcs : cs = [] := List.eq_nil_of_length_eq_zero h0
    subst hcs h1
    obtain ⟨i0, hi, hz0, hz1, hz2⟩ := info_parts Tryd.info8
    refine wpList_plain hgd fun K hK => ?_
    have hr := run_append_owned_none (P := Tryd.prog) w 0 43 o.type 5 i0 1 Tryd.underlying43 hi v bs.length (bs.map byteV) hrow
    unfold Oper.wp execOp
    simp only [ho, resolve, invoke, builtin, Sem.run_bind, Sem.run_pure, Result.andThen_ok, List.map_toArray, List.map_cons, List.map_nil, hs, hx, List.length_nil, hr]
    exact hK _ _ (h v w (by simpa using hrow) (World.grownBy.refl _ _) (.inl rfl))







end Go.Proofs.YtofhlnpbflkdlaaDoor

/-
  The reference's Of and Number.
-/
namespace Go.Proofs.YtofhlnpbflkdlaaDoor
open Go.RowKit

set_option maxHeartbeats 2000000 in
theorem refOf_any (w : World) (v : Value) (I : Nat → Prop) (cs : List Nat) (hsrc : Src w I v cs) (hlen : cs.length ≤ 100000000) (hb : ∀ b ∈ cs, b < 256) :
    Calls Tryd.prog 23 #[v] w fun e w' => ∃ v', e = .returned v' ∧ Grows w w' (.slice none 0 0) v' (ofBytes cs) := by
  obtain ⟨ao, cap, rfl, _⟩ := id hsrc
  have HS : Hid (Src w I (.slice ao cs.length cap) cs) := hsrc
  have HB : Hid (∀ b ∈ cs, b < 256) := hb
  clear hsrc hb
  go_enter Tryd.func23, Tryd.ntmps23
  go_wp2
  go_loopg [3, 4] cs.length (fun k x y wr => ∃ j : Nat, j ≤ cs.length ∧ cs.length - j ≤ k ∧ y = .int .i64 (j : Nat) ∧ Grows w wr (.slice none 0 0) x (ofBytes (cs.take j)))
  case atStart => exact ⟨0, by omega, by omega, rfl, Grows.refl (World.ownsRow_nil _ _ _ _)⟩
  case round =>
    obtain ⟨j, hj, hjk, rfl, hg⟩ := hrel
    have HG : Hid (Grows w wr (.slice none 0 0) u3 (ofBytes (cs.take j))) := hg
    have hk0 := (hg.ofNil rfl).1
    have HS2 : Hid (Src wr I (.slice ao cs.length cap) cs) := HS.out.kept hk0 (fun _ _ _ e => e)
    clear hg hk0
    by_cases hlt : j < cs.length
    · obtain ⟨b, o, rfl, _, hcell⟩ : ∃ b o, ao = some ⟨b, o, none⟩ ∧ True ∧ wr.cell? ⟨b, o + j, none⟩ = some (.int .u8 (cs[j] : Nat)) := by
        obtain ⟨ao', cap', e1, e2⟩ := HS2.out
        injection e1 with e3 _ _
        subst e3
        obtain ⟨b, o, e4, _, e5⟩ := e2 (by intro e; rw [e] at hlt; simp at hlt)
        exact ⟨b, o, e4, trivial, e5 j hlt⟩
      obtain ⟨x, hx⟩ : ∃ x, x = cs[j] := ⟨_, rfl⟩
      have hx2 : x < 256 := by rw [hx]; exact HB.out _ (List.getElem_mem _)
      rw [← hx] at hcell
      have HX : Hid (ofBytes (cs.take (j + 1)) = ofBytes (cs.take j) ++ bitsOf x 8) := by
        show _ = _
        rw [List.take_succ_eq_append_getElem hlt, ofBytes_append, hx]; simp [ofBytes]
      obtain ⟨ps, hps⟩ : ∃ ps, ps = ofBytes (cs.take j) := ⟨_, rfl⟩
      have hpl : ps.length ≤ 800000000 := by rw [hps, ofBytes_length, List.length_take]; omega
      have HG2 : Hid (Grows w wr (.slice none 0 0) u3 ps) := by rw [hps]; exact HG.out
      have HX2 : Hid (ofBytes (cs.take (j + 1)) = ps ++ bitsOf x 8) := by rw [hps]; exact HX.out
      clear hx hps HG HX
      obtain ⟨g0, hg0⟩ : ∃ g0, g0 = gk := ⟨_, rfl⟩
      subst hg0
      go_wp2_with fail
      go_loopg [3, 5, 6] 8 (fun k x3 x5 x6 wx => ∃ t u : Nat, t ≤ 8 ∧ 8 - t ≤ k ∧ x6 = .int .i64 (t : Nat) ∧ x5 = .int .u8 (u : Nat) ∧ u = x / 2 ^ t ∧ Grows w wx (.slice none 0 0) x3 (ps ++ bitsOf x t))
      case atStart => exact ⟨0, x, by omega, by omega, rfl, rfl, by simp, by simpa [bitsOf] using HG2.out⟩
      case round =>
        obtain ⟨t, u, ht, htk, rfl, rfl, hu, hg⟩ := hrel
        have HU : Hid (u = x / 2 ^ t) := hu
        have hu2 : u < 256 := by rw [hu]; exact Nat.lt_of_le_of_lt (Nat.div_le_self _ _) hx2
        have HG3 : Hid (Grows w wr (.slice none 0 0) u3 (ps ++ bitsOf x t)) := hg
        have HL2 : Hid ((ps ++ bitsOf x t).length + [u % 2].length ≤ 1000000000000) := by show _ ≤ _; rw [List.length_append, bitsOf_length]; simp; omega
        clear hu hg HG2 hcell
        by_cases hlt2 : t < 8
        · go_wp2_with (at_builtin; refine wpList_append_row _ rfl (.tmp 21) (.tmp 24) rfl u3 (ps ++ bitsOf x t) rfl (World.ownsRow.alloc HG3.out.row _) ⟨wr.heap.size, 0, none⟩ 1 1 [u % 2] rfl rfl (bytesAt_int _ _ _ (by omega)) HL2.out ?_)
          intro v' w1 hrow hgr hv'
          have R : Hid (Grows w w1 (.slice none 0 0) v' (ps ++ bitsOf x (t + 1))) := by
            have h := HG3.out.app (x := u % 2) (by rw [List.append_assoc]; exact hrow) hgr (by simpa using hv')
            rw [List.append_assoc, HU.out] at h
            exact h
          clear hrow hgr hv' HL2
          go_wp2_with fail
          go_roundg (gk - 1)
          case measure => omega
          case rel => exact ⟨t + 1, u / 2, by omega, by omega, by go_num, by go_num, by rw [HU.out, Nat.div_div_eq_div_mul, ← Nat.pow_succ], R.out⟩
        · have ht8 : t = 8 := by omega
          subst ht8
          clear HL2
          go_wp2_with fail
          go_roundg (g0 - 1)
          case measure => omega
          case rel => exact ⟨j + 1, by omega, by omega, by go_num, by rw [HX2.out]; exact HG3.out⟩
    · have hjl : j = cs.length := by omega
      go_wp2_with fail
      go_ret
      have h := HG.out
      rw [List.take_of_length_le (by omega)] at h
      exact ⟨_, rfl, h⟩

set_option maxHeartbeats 1000000 in
theorem refNumber_any (w : World) (v : Value) (I : Nat → Prop) (ls : List Nat) (hsrc : Src w I v ls) (hb : ∀ b ∈ ls, b < 2) (a n : Nat) (hn : n ≤ 32) (hl : a + n ≤ ls.length) (hlen : ls.length ≤ 1000000000000) :
    Calls Tryd.prog 64 #[v, .int .i64 (a : Nat), .int .i64 (n : Nat)] w fun e w' => e = .returned (.int .u32 (n2 ls / 2 ^ a % 2 ^ n : Nat)) ∧ w' = w := by
  obtain ⟨ao, cap, rfl, hsa⟩ := id hsrc
  rw [← n2_part ls hb a n hl]
  have HSA : Hid (ls ≠ [] → ∃ b o, ao = some ⟨b, o, none⟩ ∧ I b ∧ ∀ j (_ : j < ls.length), w.cell? ⟨b, o + j, none⟩ = some (.int .u8 (ls[j] : Nat))) := hsa
  have HB : Hid (∀ b ∈ ls, b < 2) := hb
  obtain ⟨R, hR⟩ : ∃ R, R = n2 ((ls.drop a).take n) := ⟨_, rfl⟩
  rw [← hR]
  have HR : Hid (R = n2 ((ls.drop a).take n)) := hR
  clear hsrc hsa hb hR
  go_enter Tryd.func64, Tryd.ntmps64
  go_wp2
  go_loopg [7, 8] n (fun k x y wr => ∃ (i X : Nat), i ≤ n ∧ i ≤ k ∧ y = .int .i64 ((i : Int) - 1) ∧ x = .int .u32 (X : Nat) ∧ X = n2 ((ls.drop (a + i)).take (n - i)) ∧ wr = w)
  case atStart => exact ⟨n, 0, by omega, by omega, rfl, rfl, by simp [n2], rfl⟩
  case round =>
    obtain ⟨i, X, hi, hik, rfl, rfl, hX, rfl⟩ := hrel
    have HX : Hid (X = n2 ((ls.drop (a + i)).take (n - i))) := hX
    by_cases h0 : i = 0
    · have H0 : Hid (i = 0) := h0
      have hneg : (i : Int) - 1 < 0 := by omega
      clear hX h0
      go_wp2
      go_ret
      refine ⟨?_, rfl⟩
      have : X = R := by rw [HX.out, HR.out, H0.out]; simp
      subst this
      rfl
    · obtain ⟨t, ht⟩ : ∃ t, i = t + 1 := ⟨i - 1, by omega⟩
      subst ht
      have hat : a + t < ls.length := by omega
      obtain ⟨b, o, rfl, _, hcell⟩ := HSA.out (by intro e; rw [e] at hat; simp at hat)
      have hc := hcell (a + t) hat
      obtain ⟨x, hx⟩ : ∃ x, x = ls[a + t] := ⟨_, rfl⟩
      have hx2 : x < 2 := by rw [hx]; exact HB.out _ (List.getElem_mem _)
      rw [← hx] at hc
      have hXb : X < 2147483648 := by
        rw [hX]
        exact Nat.lt_of_lt_of_le (n2_take_lt ls HB.out _ _) (Nat.le_trans (Nat.pow_le_pow_right (by omega) (show n - (t + 1) ≤ 31 by omega)) (by decide))
      have HN : Hid (2 * X + x = n2 ((ls.drop (a + t)).take (n - t))) := by
        show _ = _
        rw [show n - t = (n - (t + 1)) + 1 by omega, List.drop_eq_getElem_cons hat, List.take_succ_cons, n2, ← hx, hX, show a + t + 1 = a + (t + 1) by omega]
        omega
      clear hX hcell hx
      go_wp2
      go_roundg t
      case measure => omega
      case rel => exact ⟨t, 2 * X + x, by omega, by omega, by go_num, by go_num, HN.out, rfl⟩

end Go.Proofs.YtofhlnpbflkdlaaDoor

/-
  The reference's head: take, step.
-/
namespace Go.Proofs.YtofhlnpbflkdlaaDoor
open Go.RowKit

abbrev HdB (w : World) (h : Nat) (v : Value) (c e : Nat) : Prop := Blk w h #[v, .int .i64 (c : Nat), .int .i64 (e : Nat)] 76

/-- A number is taken: what is told, the place, the error. -/
def hTake (ls : List Nat) (c e n : Nat) : Nat × Nat × Nat :=
  if e ≠ 0 then (0, c, e) else if ls.length < c + n then (0, c, 10) else (numAt ls c n, c + n, 0)

set_option maxRecDepth 100000 in
set_option maxHeartbeats 2000000 in
theorem htake_any (w : World) (h : Nat) (v : Value) (I : Nat → Prop) (ls : List Nat) (c e n : Nat) (hH : HdB w h v c e) (hs : Src w I v ls) (hb : ∀ b ∈ ls, b < 2) (hn : n ≤ 32) (hc : c ≤ ls.length) (hlen : ls.length ≤ 1000000000) :
    Calls Tryd.prog 48 #[.pointer (some ⟨h, 0, none⟩), .int .i64 (n : Nat)] w fun r w' => r = .returned (.int .i64 ((hTake ls c e n).1 : Nat)) ∧ HdB w' h v (hTake ls c e n).2.1 (hTake ls c e n).2.2 ∧ Kept (· = h) w w' := by
  obtain ⟨ao, cap, rfl, hsa⟩ := id hs
  have c0 := hH.cell 0
  have c1 := hH.cell 1
  have c2 := hH.cell 2
  have f1 := hH.frozen 1
  have f2 := hH.frozen 2
  simp at c0 c1 c2
  have HH : Hid (HdB w h (.slice ao ls.length cap) c e) := hH
  have HS : Hid (Src w I (.slice ao ls.length cap) ls) := hs
  have HB : Hid (∀ b ∈ ls, b < 2) := hb
  obtain ⟨M, hM⟩ : ∃ M, M = ls.length := ⟨_, rfl⟩
  rw [← hM] at c0 HH HS hc hlen
  have HM : Hid (M = ls.length) := hM
  clear hs hsa hb hH
  by_cases he : e = 0
  · subst he
    obtain ⟨d, hd⟩ : ∃ d, d = M - c := ⟨_, rfl⟩
    have hdI : (M : Int) - (c : Int) = (d : Int) := by omega
    have hwd : IntKind.i64.wrap (d : Int) = (d : Int) := by rw [IntKind.wrap_i64]; omega
    by_cases hdn : d < n
    · have HE : Hid (hTake ls c 0 n = (0, c, 10)) := hid (by unfold hTake; rw [if_neg (by simp), if_pos (by omega)])
      clear hd hM
      go_enter Tryd.func48, Tryd.ntmps48
      go_wp2_with fail
      go_quiet (fail)
      go_wp2_with fail
      go_ret
      rw [HE.out]
      refine ⟨rfl, ?_, ((Kept.refl (· = h) w).drewN _).setCell ⟨h, 2, none⟩ _ (.inl rfl)⟩
      have hb := (HH.out.drewN nq).set 2 (.int .i64 10)
      rw [HM.out] at hb
      simp at hb
      exact hb
    · have hdd : decide (d < n) = false := by simp; omega
      have hfit : c + n ≤ M := by omega
      obtain ⟨x, hx⟩ : ∃ x, x = numAt ls c n := ⟨_, rfl⟩
      have HE : Hid (hTake ls c 0 n = (x, c + n, 0)) := hid (by unfold hTake; rw [if_neg (by simp), if_neg (by omega), hx])
      have HNB : ∀ wx : World, Src wx I (.slice ao M cap) ls → Calls Tryd.prog 64 #[.slice ao M cap, .int .i64 (c : Nat), .int .i64 (n : Nat)] wx fun e w' => e = .returned (.int .u32 (x : Nat)) ∧ w' = wx := by
        intro wx hsx
        have h1 := refNumber_any wx _ I ls hsx HB.out c n hn (by omega) (by omega)
        rw [← n2_part ls HB.out c n (by omega)] at h1
        have e1 : n2 ((ls.drop c).take n) = x := hx.symm
        rw [e1] at h1
        exact h1
      have hx32 : x < 4294967296 := by
        rw [hx]
        exact Nat.lt_of_lt_of_le (numAt_lt ls HB.out c n) (Nat.le_trans (Nat.pow_le_pow_right (by omega) hn) (by decide))
      obtain ⟨cn, hcn⟩ : ∃ cn, cn = c + n := ⟨_, rfl⟩
      have hcnI : (c : Int) + (n : Int) = (cn : Int) := by omega
      have HCN : Hid (cn = c + n) := hcn
      have hcnle : cn ≤ 1000000000 := by omega
      clear hd hM hx hcn hdn hfit
      go_enter Tryd.func48, Tryd.ntmps48
      go_wp2_with fail
      go_quiet (fail)
      go_wp2_with fail
      have HS1 : Hid (Src (w.drewN nq) I (.slice ao M cap) ls) := hid (HS.out.kept ((Kept.refl (fun _ => False) w).drewN nq) (fun _ _ _ f => f))
      have HH1 : Hid (HdB (w.drewN nq) h (.slice ao M cap) c 0) := hid (HH.out.drewN nq)
      have HK1 : Hid (Kept (· = h) w (w.drewN nq)) := hid ((Kept.refl (· = h) w).drewN nq)
      generalize w.drewN nq = w1 at *
      have c0 := HH1.out.cell 0
      have c1 := HH1.out.cell 1
      have f1 := HH1.out.frozen 1
      simp at c0 c1
      have HN1 := fun q => HNB (w1.drewN q) (HS1.out.kept ((Kept.refl (fun _ => False) w1).drewN q) (fun _ _ _ f => f))
      go_quiet ((go_at_call 64; exact Calls.quiet_of_same (HN1 _)))
      go_wp2_with fail
      go_ret
      rw [HE.out, ← HCN.out]
      refine ⟨rfl, ?_, (HK1.out.drewN _).setCell ⟨h, 1, none⟩ _ (.inl rfl)⟩
      have hb := (HH1.out.drewN nq).set 1 (.int .i64 (cn : Nat))
      rw [HM.out] at hb
      simp at hb
      exact hb
  · have HE : Hid (hTake ls c e n = (0, c, e)) := hid (by unfold hTake; rw [if_pos he])
    have hed : ((e : Int) != 0) = true := by simp; omega
    have hed2 : ((e : Int) == 0) = false := by simp; omega
    clear he hM
    go_enter Tryd.func48, Tryd.ntmps48
    go_wp2_with fail
    go_quiet (fail)
    go_wp2_with fail
    go_ret
    rw [HE.out]
    refine ⟨rfl, ?_, (Kept.refl (· = h) w).drewN _⟩
    have hb := HH.out.drewN nq
    rw [HM.out] at hb
    exact hb

end Go.Proofs.YtofhlnpbflkdlaaDoor
