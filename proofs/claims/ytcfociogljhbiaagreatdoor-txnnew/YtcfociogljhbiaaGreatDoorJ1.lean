/-
  Of the proof: parts Base.
-/
import Derived.WalkKit
import Derived.WalkSpells
import Derived.WalkLawsBesides
import Derived.Deep.QuietTactic
import Derived.Deep.LoopGhost
import Derived.Deep.Cut
import Derived.Deep.CutRange
import Derived.BigQuiet
import Derived.BigRegion
import Derived.Laws.CopyOwn

namespace Go.Proofs.YtcfociogljhbiaaGreatDoor
open Go.RowKit
structure Kept(F:Nat→Prop)(w w':World):Prop where
 os:w'.os=w.os
 tape:w'.tape=w.tape
 output:w'.output=w.output
 size:w.heap.size≤w'.heap.size
 block:∀k,k<w.heap.size→¬F k→w'.heap[k]? = w.heap[k]?

theorem Kept.refl(F:Nat→Prop)(w:World):Kept F w w:=⟨rfl,rfl,rfl,Nat.le_refl _,fun _ _ _=>rfl⟩

theorem Kept.trans{F G H:Nat→Prop}{a b c:World}(h:Kept F a b)(k:Kept G b c)(hF:∀x,x<a.heap.size→F x→H x)(hG:∀x,x<a.heap.size→G x→H x):Kept H a c:=
 ⟨k.os.trans h.os,k.tape.trans h.tape,k.output.trans h.output,Nat.le_trans h.size k.size,
  fun i hi hn=>(k.block i (Nat.lt_of_lt_of_le hi h.size) (fun g=>hn (hG i hi g))).trans (h.block i hi (fun g=>hn (hF i hi g)))⟩

theorem Kept.mono{F G:Nat→Prop}{a b:World}(h:Kept F a b)(hF:∀x,x<a.heap.size→F x→G x):Kept G a b:=
 ⟨h.os,h.tape,h.output,h.size,fun i hi hn=>h.block i hi (fun g=>hn (hF i hi g))⟩

theorem Kept.drewN{F:Nat→Prop}{a b:World}(h:Kept F a b)(n:Nat):Kept F a (b.drewN n):=⟨h.os,h.tape,h.output,h.size,h.block⟩

theorem Kept.drew{F:Nat→Prop}{a b:World}(h:Kept F a b):Kept F a b.drew:=⟨h.os,h.tape,h.output,h.size,h.block⟩

theorem Kept.alloc{F:Nat→Prop}{a b:World}(h:Kept F a b)(o:Obj):Kept F a (b.alloc o):=
 ⟨h.os,h.tape,h.output,Nat.le_trans h.size (by simp),fun k hk hn=>(Below.heap_alloc _ _ _ (Nat.lt_of_lt_of_le hk h.size)).trans (h.block k hk hn)⟩

theorem Kept.setCell{F:Nat→Prop}{a b:World}(h:Kept F a b)(p:Addr)(u:Value)(hp:F p.block∨a.heap.size≤p.block):Kept F a (b.setCell p u):=
 ⟨h.os,h.tape,h.output,Nat.le_trans h.size (by simp[World.setCell]),
  fun k hk hn=>(Below.heap_setCell _ _ _ _ (by rintro rfl;rcases hp with hp | hp;exact hn hp;omega)).trans (h.block k hk hn)⟩

theorem Kept.grown{F:Nat→Prop}{a w w':World}{row:Option Nat}(h:Kept F a w)(hg:w.grownBy w' row)(hr:∀k,row=some k→F k∨a.heap.size≤k):Kept F a w':=
 ⟨hg.os.trans h.os,hg.tape.trans h.tape,hg.output.trans h.output,Nat.le_trans h.size hg.size,
  fun k hk hn=>(hg.block k (Nat.lt_of_lt_of_le hk h.size) (fun e=>by rcases hr k e.symm with q | q;exact hn q;omega)).trans (h.block k hk hn)⟩

theorem Kept.below{F:Nat→Prop}{a b:World}(h:Kept F a b){B:Nat}(hB:B≤a.heap.size)(hF:∀x,x<B→¬F x):Below B a b:=
 ⟨h.os,h.tape,h.output,h.size,fun k hk=>h.block k (Nat.lt_of_lt_of_le hk hB) (hF k hk)⟩

theorem Kept.ofBelow{F:Nat→Prop}{a b:World}(h:Below a.heap.size a b):Kept F a b:=⟨h.os,h.tape,h.output,h.size,fun k hk _=>h.block k hk⟩

theorem Kept.cell{F:Nat→Prop}{w w':World}(h:Kept F w w'){p:Addr}{v:Value}(hc:w.cell? p=some v)(hp:¬F p.block):w'.cell? p=some v:=
 (World.cell?_of_block (h.block p.block (World.block_lt_of_cell? w p hc) hp)).trans hc

end Go.Proofs.YtcfociogljhbiaaGreatDoor
