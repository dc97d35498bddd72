/-
  The reader's inner function 'cut'.
-/
import Derived.Test.YtaefgnakdadgeaaOwn2
import Derived.Laws.BitsAllLaws
namespace Go.Proofs.Ytaefgnakdadgeaa
open Go.RowKit

theorem cut_bits (V b u k got : Nat) (hV : V < 2 ^ got) (hb : b < 256) (hk : k ≤ 8) (hg : got + k ≤ 32) :
    bits .or .u32 (V : Int) (bits .and .u32 ((b : Int) % 4294967296 / 2 ^ u) ((2 ^ k - 1) % 4294967296) * 2 ^ got % 4294967296) = ((V + 2 ^ got * (b / 2 ^ u % 2 ^ k) : Nat) : Int) := by
  have hk2 : 2 ^ k ≤ 2 ^ 8 := Nat.pow_le_pow_right (by omega) hk
  have hk0 : 0 < 2 ^ k := Nat.two_pow_pos k
  have e1 : ((b : Int) % 4294967296 / 2 ^ u) = ((b / 2 ^ u : Nat) : Int) := by
    rw [show ((b : Int) % 4294967296) = (b : Int) by omega]; simp
  have e2 : (((2 : Int) ^ k - 1) % 4294967296) = ((2 ^ k - 1 : Nat) : Int) := by
    have : ((2 : Int) ^ k) = ((2 ^ k : Nat) : Int) := by simp
    rw [this]
    omega
  have h1 : b / 2 ^ u < 4294967296 := Nat.lt_of_le_of_lt (Nat.div_le_self _ _) (by omega)
  have h2 : 2 ^ k - 1 < 4294967296 := by omega
  rw [e1, e2, u32_and_nat _ _ h1 h2, and_mask]
  have hm : b / 2 ^ u % 2 ^ k < 2 ^ k := Nat.mod_lt _ hk0
  have hlt : b / 2 ^ u % 2 ^ k * 2 ^ got < 4294967296 := by
    have h3 : b / 2 ^ u % 2 ^ k * 2 ^ got < 2 ^ k * 2 ^ got := Nat.mul_lt_mul_of_pos_right hm (Nat.two_pow_pos _)
    have h4 : 2 ^ k * 2 ^ got ≤ 2 ^ 32 := by rw [← Nat.pow_add]; exact Nat.pow_le_pow_right (by omega) (by omega)
    omega
  have e3 : (((b / 2 ^ u % 2 ^ k : Nat) : Int) * 2 ^ got % 4294967296) = ((b / 2 ^ u % 2 ^ k * 2 ^ got : Nat) : Int) := by
    have : ((2 : Int) ^ got) = ((2 ^ got : Nat) : Int) := by simp
    rw [this, ← Int.natCast_mul]
    omega
  have hV32 : V < 4294967296 := by
    have : 2 ^ got ≤ 2 ^ 32 := Nat.pow_le_pow_right (by omega) (by omega)
    omega
  rw [e3, u32_or_nat _ _ hV32 hlt, Nat.mul_comm, or_add _ _ _ hV]

theorem cut_rel {w wr : World} {p : Nat} {s : Value} {bs : List Nat} {c n got k gk nq V b : Nat} (hs : St wr p s bs (c + got)) (hkp : Kept (· = p) w wr) (hlt : (c + got) / 8 < bs.length) (hb : b = bs[(c + got) / 8]) (hV : V = n256 bs / 2 ^ c % 2 ^ got)
    (hk : (c + got) % 8 + k ≤ 8) (hkn : got + k ≤ n) (hn : n ≤ 32) (hgk : n - (got + k) ≤ gk) {M G C : Int} (hM : M = bits .or .u32 (V : Int) (bits .and .u32 ((b : Int) % 4294967296 / 2 ^ ((c + got) % 8)) ((2 ^ k - 1) % 4294967296) * 2 ^ got % 4294967296))
    (hG : G = ((got + k : Nat) : Int)) (hC : C = ((c + (got + k) : Nat) : Int)) :
    ∃ got' : Nat, got' ≤ n ∧ n - got' ≤ gk ∧ Value.int .u32 M = .int .u32 (n256 bs / 2 ^ c % 2 ^ got' : Nat) ∧ Value.int .i64 G = .int .i64 (got' : Nat) ∧ St ((wr.drewN nq).setCell ⟨p, 1, none⟩ (.int .i64 C)) p s bs (c + got') ∧ Kept (· = p) w ((wr.drewN nq).setCell ⟨p, 1, none⟩ (.int .i64 C)) := by
  have hb8 : b < 256 := by rw [hb]; exact hs.byte _ (List.getElem_mem _)
  have hV2 : V < 2 ^ got := by rw [hV]; exact Nat.mod_lt _ (Nat.two_pow_pos _)
  have e := cut_step bs hs.byte c got k hk hlt
  subst hG hC
  refine ⟨got + k, hkn, hgk, ?_, rfl, (hs.drewN nq).setCount _, (hkp.drewN nq).setCell _ _ (.inl rfl)⟩
  rw [hM, cut_bits V b _ k got hV2 hb8 (by omega) (by omega), ← e, hb, hV]

