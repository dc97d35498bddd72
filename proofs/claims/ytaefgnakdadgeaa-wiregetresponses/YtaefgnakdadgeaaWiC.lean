/-
  Layer 19: fields: what they are, and what is wrong with one.
-/
import Derived.Test.YtaefgnakdadgeaaWiB
import Derived.Test.YtaefgnakdadgeaaAppS
import Derived.Test.YtaefgnakdadgeaaArr
import Derived.Test.YtaefgnakdadgeaaLPut
import Derived.Test.YtaefgnakdadgeaaBk2
import Derived.Test.YtaefgnakdadgeaaRec
import Derived.Deep.RegionHeld3
namespace Go.Proofs.Ytaefgnakdadgeaa
open Go.RowKit

/-- A cell of a request or of a response. -/
inductive Cel where
  | n (x : Int)
  | s (t : ByteArray)
  | o (v : Value)

def Cel.val : Cel → Value
  | .n x => .int .i64 x
  | .s t => .string t
  | .o v => v

/-- A field: a number or a text, and where it lies. -/
inductive Fd where
  | num (i : Nat)
  | txt (i m : Nat)

def fdV (p : Nat) : Fd → Value
  | .num i => .iface 79 (.agg #[.pointer (some ⟨p, i, none⟩)])
  | .txt i m => .iface 82 (.agg #[.pointer (some ⟨p, i, none⟩), .int .i64 (m : Nat)])

/-- A field as an element of a list. -/
def fdE (p : Nat) (f : Fd) : List Value := [fdV p f]

theorem fdE_ok (p : Nat) : EncOk (fdE p) 1 := ⟨fun _ => rfl, fun f u hu => by cases f <;> (simp only [fdE, List.mem_singleton] at hu; subst hu; rfl), by decide⟩

/-- An object of such cells. -/
def Ob (w : World) (p : Nat) (t : TypeId) (cs : List Cel) : Prop := Blk w p (cs.map Cel.val).toArray t

theorem Ob.lt {w : World} {p : Nat} {t : TypeId} {cs : List Cel} (h : Ob w p t cs) : p < w.heap.size := Blk.lt h
theorem Ob.kept {F : Nat → Prop} {w w' : World} {p : Nat} {t : TypeId} {cs : List Cel} (h : Ob w p t cs) (hk : Kept F w w') (hF : ¬ F p) : Ob w' p t cs := Blk.kept h hk hF
theorem Ob.cell {w : World} {p : Nat} {t : TypeId} {cs : List Cel} {i : Nat} {c : Cel} (h : Ob w p t cs) (hc : cs[i]? = some c) : w.cell? ⟨p, i, none⟩ = some c.val := by
  have := Blk.cell h i
  rw [this]
  simp [hc]
theorem Ob.frozen {w : World} {p : Nat} {t : TypeId} {cs : List Cel} (h : Ob w p t cs) (i : Nat) : w.frozen? ⟨p, i, none⟩ = false := Blk.frozen h i
theorem Ob.set {w : World} {p : Nat} {t : TypeId} {cs : List Cel} (h : Ob w p t cs) (i : Nat) (c : Cel) : Ob (w.setCell ⟨p, i, none⟩ c.val) p t (cs.set i c) := by
  have := Blk.set h i c.val
  unfold Ob
  rw [List.map_set]
  simpa using this

/-- Does a field fit the cells? -/
def Fd.fits (cs : List Cel) : Fd → Prop
  | .num i => ∃ x, cs[i]? = some (.n x)
  | .txt i m => (∃ t, cs[i]? = some (.s t)) ∧ m ≤ 16384

def numA (x : Int) : Nat := if x < 0 ∨ 1000000000 < x then 1 else 0

/-- What is wrong with a field. -/
def wrongF (cs : List Cel) : Fd → Nat
  | .num i => match cs[i]? with
    | some (.n x) => numA x
    | _ => 0
  | .txt i m => match cs[i]? with
    | some (.s t) => if m < t.size then 2 else 0
    | _ => 0

set_option maxRecDepth 100000 in
set_option maxHeartbeats 400000 in
theorem nwrong_any (w : World) (p i : Nat) (x : Int) (hc : w.cell? ⟨p, i, none⟩ = some (.int .i64 x)) :
    Calls Try.prog 83 #[.agg #[.pointer (some ⟨p, i, none⟩)]] w fun e w' => e = .returned (.int .i64 (numA x : Nat)) ∧ Same w w' := by
  obtain ⟨W1, hW1⟩ : ∃ W, W = w.alloc (.cells #[.pointer (some ⟨p, i, none⟩)] 79) := ⟨_, rfl⟩
  obtain ⟨xb, hxb⟩ : ∃ b, b = w.heap.size := ⟨_, rfl⟩
  have HK : Hid (Same w W1) := hid (by rw [hW1]; exact (Kept.refl _ w).alloc _)
  have HB : Hid (Blk W1 xb #[.pointer (some ⟨p, i, none⟩)] 79) := hid (by rw [hW1, hxb]; exact Blk.new w _ _)
  have c1 := HK.out.cell hc (fun f => f)
  have b0 := HB.out.cell 0
  simp at b0
  clear hc
  by_cases h1 : x < 0
  · have HE : Hid (numA x = 1) := hid (by unfold numA; rw [if_pos (.inl h1)])
    have d1 : decide (x < 0) = true := by simp; omega
    clear h1
    go_enter Try.func83, Try.ntmps83
    go_upto_region 1 with fail
    rw [← hW1, ← hxb]
    clear hW1 hxb
    go_wp2_with fail
    go_ret
    exact ⟨by rw [HE.out]; rfl, HK.out⟩
  by_cases h2 : 1000000000 < x
  · have HE : Hid (numA x = 1) := hid (by unfold numA; rw [if_pos (.inr h2)])
    have d1 : decide (x < 0) = false := by simp; omega
    have d2 : decide (1000000000 < x) = true := by simp; omega
    clear h1 h2
    go_enter Try.func83, Try.ntmps83
    go_upto_region 1 with fail
    rw [← hW1, ← hxb]
    clear hW1 hxb
    go_wp2_with fail
    go_ret
    exact ⟨by rw [HE.out]; rfl, HK.out⟩
  · have HE : Hid (numA x = 0) := hid (by unfold numA; rw [if_neg (by omega)])
    have d1 : decide (x < 0) = false := by simp; omega
    have d2 : decide (1000000000 < x) = false := by simp; omega
    clear h1 h2
    go_enter Try.func83, Try.ntmps83
    go_upto_region 1 with fail
    rw [← hW1, ← hxb]
    clear hW1 hxb
    go_wp2_with fail
    go_ret
    exact ⟨by rw [HE.out]; rfl, HK.out⟩

set_option maxRecDepth 100000 in
set_option maxHeartbeats 400000 in
theorem twrong_any (w : World) (p i m : Nat) (T : ByteArray) (hc : w.cell? ⟨p, i, none⟩ = some (.string T)) :
    Calls Try.prog 90 #[.agg #[.pointer (some ⟨p, i, none⟩), .int .i64 (m : Nat)]] w fun e w' => e = .returned (.int .i64 ((if m < T.size then 2 else 0 : Nat) : Nat)) ∧ Same w w' := by
  obtain ⟨W1, hW1⟩ : ∃ W, W = w.alloc (.cells #[.pointer (some ⟨p, i, none⟩), .int .i64 (m : Nat)] 82) := ⟨_, rfl⟩
  obtain ⟨xb, hxb⟩ : ∃ b, b = w.heap.size := ⟨_, rfl⟩
  have HK : Hid (Same w W1) := hid (by rw [hW1]; exact (Kept.refl _ w).alloc _)
  have HB : Hid (Blk W1 xb #[.pointer (some ⟨p, i, none⟩), .int .i64 (m : Nat)] 82) := hid (by rw [hW1, hxb]; exact Blk.new w _ _)
  have c1 := HK.out.cell hc (fun f => f)
  obtain ⟨z0, z1, z2, z3⟩ := HB.out.two
  clear hc
  obtain ⟨q, hq⟩ : ∃ q, q = (if m < T.size then 2 else 0 : Nat) := ⟨_, rfl⟩
  rw [← hq]
  have HQ : Hid (q = (if m < T.size then 2 else 0 : Nat)) := hq
  clear hq
  by_cases h1 : m < T.size
  · have HE : Hid (q = 2) := hid (by rw [HQ.out, if_pos h1])
    have d1 : decide ((m : Int) < (T.size : Int)) = true := by simp; omega
    have d2 : decide (m < T.size) = true := by simp; omega
    clear h1
    go_enter Try.func90, Try.ntmps90
    go_upto_region 1 with fail
    rw [← hW1, ← hxb]
    clear hW1 hxb
    go_region
    all_goals
      go_wp2_with fail
      go_ret
      exact ⟨by rw [HE.out]; rfl, HK.out.drew⟩
  · have HE : Hid (q = 0) := hid (by rw [HQ.out, if_neg h1])
    have d1 : decide ((m : Int) < (T.size : Int)) = false := by simp; omega
    have d2 : decide (m < T.size) = false := by simp; omega
    clear h1
    go_enter Try.func90, Try.ntmps90
    go_upto_region 1 with fail
    rw [← hW1, ← hxb]
    clear hW1 hxb
    go_region
    all_goals
      go_wp2_with fail
      go_ret
      exact ⟨by rw [HE.out]; rfl, HK.out.drew⟩

end Go.Proofs.Ytaefgnakdadgeaa
