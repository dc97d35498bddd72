/-
  Of the proof: parts ChYa.
-/
import Derived.Lib.Bytealg
import Derived.Shelf.SlIter.Stops
import Derived.Test.YtcfociogljhbiaaGreatDoorJ4

namespace Go.Proofs.YtcfociogljhbiaaGreatDoor
open Go.RowKit Go.Maps Go.Sort Go.Shelf Go.Lib

def Gr(W W':World):Prop:=∃q os,W'=grow (W.drewN q) os

theorem Gr.refl(W:World):Gr W W:=⟨0,#[],by rw[grow_empty];rfl⟩
theorem Gr.alloc{W W':World}(h:Gr W W')(o:Obj):Gr W (W'.alloc o):=by
 obtain⟨q,os,rfl⟩:=h
 exact⟨q,os ++ #[o],by rw[alloc_eq_grow,grow_grow]⟩
theorem Gr.drew{W W':World}(h:Gr W W'):Gr W W'.drew:=by
 obtain⟨q,os,rfl⟩:=h
 refine⟨q+1,os,?_⟩
 rw[drew_grow]
 rfl
theorem Gr.trans{A B C:World}(h:Gr A B)(k:Gr B C):Gr A C:=by
 obtain⟨q,os,rfl⟩:=h
 obtain⟨q',os',rfl⟩:=k
 exact⟨q+q',os++os',by rw[←grow_grow];simp[grow,World.drewN,Nat.add_assoc]⟩
theorem Gr.same{W W':World}(h:Gr W W'):Same W W':=by
 obtain⟨q,os,rfl⟩:=h
 exact same_grow W q os

set_option maxHeartbeats 1000000 in
theorem or_any(w:World)(g:Nat)(x y:Int)(h0:w.cell? ⟨g,0,none⟩=some (.int .i64 x))(h1:w.cell? ⟨g,1,none⟩=some (.int .i64 y)):
  Calls Tryz.prog 118 #[.slice (some ⟨g,0,none⟩) 2 2] w fun e w'=>e=.returned (.int .i64 (if x=0 then y else x))∧w'=w:=by
 by_cases hx:x=0
 ·have bx:(x != 0)=false:=by simp[hx]
  rw[if_pos hx]
  by_cases hy:y=0
  ·have by':(y != 0)=false:=by simp[hy]
   have HY:Hid (y=0):=hy
   clear hx hy
   go_enter Tryz.func118,Tryz.ntmps118
   go_wp2_with fail
   refine wp_loop_rounds 3 ?_
   rw[rounds_succ]
   go_wp2_with fail
   rw[rounds_succ]
   go_wp2_with fail
   rw[rounds_succ]
   go_wp2_with fail
   go_ret
   exact⟨by rw[HY.out];rfl,rfl⟩
  ·have by':(y != 0)=true:=by simp[hy]
   clear hx hy
   go_enter Tryz.func118,Tryz.ntmps118
   go_wp2_with fail
   refine wp_loop_rounds 3 ?_
   rw[rounds_succ]
   go_wp2_with fail
   rw[rounds_succ]
   go_wp2_with fail
   go_ret
   exact⟨rfl,rfl⟩
 ·have bx:(x != 0)=true:=by simp[hx]
  rw[if_neg hx]
  clear hx
  go_enter Tryz.func118,Tryz.ntmps118
  go_wp2_with fail
  refine wp_loop_rounds 3 ?_
  rw[rounds_succ]
  go_wp2_with fail
  go_ret
  exact⟨rfl,rfl⟩

theorem u8_tri(a b:UInt8)(h1:¬a<b)(h2:¬b<a):a=b:=by
 rw[UInt8.lt_iff_toNat_lt]at h1 h2
 exact UInt8.toNat_inj.1 (by omega)

theorem u8_irr(a:UInt8):¬a<a:=by rw[UInt8.lt_iff_toNat_lt];omega

theorem cmp_lt:∀a b:List UInt8,compareBytes a b<0↔a<b
 | [],[]=>by simp[compareBytes]
 | [],b::bs=>by simp[compareBytes]
 | a::r,[]=>by simp[compareBytes]
 | a::r,b::bs=>by
  rw[compareBytes,List.cons_lt_cons_iff]
  by_cases h:a<b
  ·simp[h]
  ·rw[if_neg h]
   by_cases h2:b<a
   ·rw[if_pos h2]
    have:¬a=b:=fun e=>by rw[e]at h2;exact u8_irr _ h2
    simp[h,this]
   ·rw[if_neg h2,cmp_lt r bs]
    simp[u8_tri a b h h2]

theorem cmp_zero:∀a b:List UInt8,compareBytes a b=0↔a=b
 | [],[]=>by simp[compareBytes]
 | [],b::bs=>by simp[compareBytes]
 | a::r,[]=>by simp[compareBytes]
 | a::r,b::bs=>by
  rw[compareBytes]
  by_cases h:a<b
  ·have:¬a=b:=fun e=>by rw[e]at h;exact u8_irr _ h
   simp[h,this]
  ·rw[if_neg h]
   by_cases h2:b<a
   ·rw[if_pos h2]
    have:¬a=b:=fun e=>by rw[e]at h2;exact u8_irr _ h2
    simp[this]
   ·rw[if_neg h2,cmp_zero r bs]
    simp[u8_tri a b h h2]

theorem list_tri(a b:List UInt8):a<b∨a=b∨b<a:=by
 rcases List.le_total a b with h | h
 ·rcases List.le_iff_lt_or_eq.1 h with h | h
  ·exact .inl h
  ·exact .inr (.inl h)
 ·rcases List.le_iff_lt_or_eq.1 h with h | h
  ·exact .inr (.inr h)
  ·exact .inr (.inl h.symm)

end Go.Proofs.YtcfociogljhbiaaGreatDoor
