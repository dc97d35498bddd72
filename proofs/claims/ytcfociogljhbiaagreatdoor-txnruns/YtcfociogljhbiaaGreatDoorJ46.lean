/-
  Of the proof: parts TzO.
-/
import Derived.Sort.Walk0
import Derived.Test.YtcfociogljhbiaaGreatDoorJ32
import Derived.Test.YtcfociogljhbiaaGreatDoorJ45

namespace Go.Proofs.YtcfociogljhbiaaGreatDoor
open Go.RowKit Go.Maps Go.Sort Go.Shelf

theorem sorts14(m:Nat):AnyZI.SortsIn Tryz.prog Tryz.sorted14_ren Fence.wide m:=
 ⟨fun blk off cap ss W hH hblk hsz=>callsIn_wide.2 (AnyM.slices_Sort_int Tryz.sort14 blk off cap ss W hH hblk hsz),
  fun p cap W=>callsIn_wide.2 (AnyM.slices_Sort_int_none Tryz.sort14 p cap W)⟩

theorem keys14_any(mb:Option Nat)(W:World):CallsIn Fence.wide 5 Tryz.prog 74 #[.map mb] W fun e w'=>e=.returned (.func (.func 117) #[] #[.pointer (some ⟨W.heap.size,0,none⟩)])∧w'=W.alloc (.cells #[.map mb] 88):=
 AnyZI.keys_in Tryz.keys14 Fence.wide 5 trivial rfl mb W

set_option maxHeartbeats 1000000 in
theorem sorted14_any{H:Type}(b nn:Nat)(D0:DataW H)(R:Value→Option (DataW H×List MemPlace))(w:World)(hown:w.ownsMap Tryz.prog 3 R b nn D0)(hmax:Maps.size D0≤maxLen)(hbytes:Maps.size D0*8≤140737488355328):
  CallsIn Fence.wide 5 Tryz.prog 73 #[.func (.func 117) #[] #[.pointer (some ⟨w.heap.size,0,none⟩)]] (w.alloc (.cells #[.map (some b)] 88)) fun e w'=>∃(v:Value) (ss:List Int),e=.returned v∧ss.Perm (intKeys D0) ∧
   w'.ownsRow (w.alloc (.cells #[.map (some b)] 88)).heap.size 3 1 v ss.length ((ss.mergeSort (fun x y=>decide (x≤y))).map encZ)∧(v=.slice none 0 0↔ss=[])∧Below (w.alloc (.cells #[.map (some b)] 88)).heap.size (w.alloc (.cells #[.map (some b)] 88)) w':=by
 have hbl:=hown.lt
 have hseq:SeqGives Fence.wide 2 Tryz.prog 117 #[.pointer (some ⟨w.heap.size,0,none⟩)] encZ (fun ss=>ss.Perm (intKeys D0)) (Maps.size D0) (w.alloc (.cells #[.map (some b)] 88)):=
  AnyZI.keys_gives (ρ:=Tryz.keys14_ren) {Tryz.keys14 with} Fence.wide _ trivial rfl (by omega) w.heap.size b nn D0 _ (by simp) (by simp) (by
   obtain⟨es,clock,hb,Ft,hs,hD⟩:=hown
   exact⟨es,clock,(Below.heap_alloc _ _ b hbl).trans hb,Ft,hs,hD⟩)
 exact AnyZI.sorted_in Tryz.sorted14 Fence.wide 5 trivial trivial trivial trivial rfl (by omega) (sorts14 _) (enters_of Tryz.func116 (by kernel_rfl) rfl) 117 #[.pointer (some ⟨w.heap.size,0,none⟩)] trivial (enters_of Tryz.func117 (by kernel_rfl) rfl) _ _ hmax hbytes _ hseq

theorem keysI_sorted{L:List (Nb×Nat)}(h:L.Pairwise (fun p q=>(kI p.1).before (kI q.1)=true)){ss:List Int}(hp:ss.Perm (intKeys (mpD kI L))):
  ss.mergeSort (fun x y=>decide (x≤y))=L.map (fun p=>p.1.v)∧(L.map (fun p=>p.1.v)).Pairwise (· < ·):=by
 have e1:intKeys (mpD kI L)=L.map (fun p=>p.1.v):=by
  unfold mpD intKeys
  dsimp only
  rw[List.map_map]
  rfl
 have h1:L.Pairwise (fun p q=>p.1.v<q.1.v):=h.imp (fun {a b} e=>by simpa[kI,Lit.before]using e)
 rw[e1]at hp
 have h2:(L.map (fun p=>p.1.v)).Pairwise (fun x y=>decide (x≤y)=true):=by
  rw[List.pairwise_map]
  exact h1.imp (fun h=>by simp only[decide_eq_true_eq];omega)
 exact⟨by rw[mergeSort_of_perm_i hp];exact List.mergeSort_of_pairwise h2,by rw[List.pairwise_map];exact h1⟩

def nbV(n:Nb):Value:=.int .i64 n.v

def OpnA(w:World)(S:Ts)(e:Ending)(w':World):Prop:=∃v L,e=.returned v∧RowE w.heap.size 3 nbV w' v L∧L.Pairwise (fun a b=>a.v<b.v)∧(∀n,n∈L↔S.op n≠none)∧(v=.slice none 0 0↔L=[])∧Same w w'

theorem mem_getK14(n:Nb)(L:List (Nb×Nat)):n∈L.map (·.1)↔getK n L≠none:=by
 induction L with
 | nil=>simp[getK]
 | cons y r ih=>
  unfold getK at ih ⊢
  rw[List.map_cons,List.mem_cons,List.find?_cons]
  by_cases e:y.1=n
  ·simp[e]
  ·rw[decide_eq_false e]
   simp only
   rw[←ih]
   constructor
   ·rintro(h | h)
    ·exact absurd h.symm e
    ·exact h
   ·exact .inr

section
variable {K N:Nat} {B:Int} {w:World} {p:Nat} {S:Ts} {F:Nat→Prop}

set_option maxRecDepth 100000 in
set_option maxHeartbeats 1000000 in
theorem gopenT(h:Mg K N B w p S F):Calls Tryz.prog 31 #[.pointer (some ⟨p,0,none⟩)] w (OpnA w S):=by
 obtain⟨c,τ,h1,h2,h3,h4⟩:=h
 have hop:∀n,S.op n=(getK n c.L).map (fun q=>(c.ow q,c.mv q)):=fun n=>by rw[←h3];rfl
 have p2:w.cell? ⟨p,2,none⟩=some (.map (some c.mo)):=h1.blk.cell 2
 have hsz:Maps.size (mpD kI c.L)≤256:=by rw[mpD_size];exact h1.lens.1
 have HS:=callsIn_wide.1 (sorted14_any c.mo c.L.length (mpD kI c.L) ptC w h1.om (by unfold maxLen;omega) (by omega))
 have HRI:=hid (h1.om.rising intKey14)
 have HOP:Hid (∀n,n∈c.L.map (·.1)↔S.op n≠none):=hid (fun n=>by
  rw[mem_getK14,hop n]
  cases getK n c.L<;>simp)
 obtain⟨mo,hmo⟩:∃x,x=c.mo:=⟨_,rfl⟩
 rw[←hmo]at p2 HS
 have HK:Calls Tryz.prog 74 #[.map (some mo)] w fun e w'=>e=.returned (.func (.func 117) #[] #[.pointer (some ⟨w.heap.size,0,none⟩)])∧w'=w.alloc (.cells #[.map (some mo)] 88):=callsIn_wide.1 (keys14_any (some mo) w)
 clear h1 h2 h3 h4 hop hsz hmo
 go_enter Tryz.func31,Tryz.ntmps31
 go_wp2_with fail
 refine HK.mono ?_
 rintro e w2 ⟨rfl,rfl⟩
 clear HK
 go_wp2_with fail
 refine HS.mono ?_
 rintro e w3 ⟨v,ss,rfl,hS,hrow,hnil,hb⟩
 have HF:Hid (OpnA w S (.returned v) w3):=hid (by
  obtain⟨e1,e2⟩:=keysI_sorted HRI.out hS
  have hl2:ss.length=(c.L.map (·.1)).length:=by rw[hS.length_eq];unfold mpD intKeys;simp
  rw[e1,hl2]at hrow
  have e3:(c.L.map (fun p=>p.1.v)).map encZ=(c.L.map (·.1)).map nbV:=by rw[List.map_map,List.map_map];rfl
  rw[e3]at hrow
  refine⟨v,c.L.map (·.1),rfl,RowE.base (B:=(w.alloc (.cells #[.map (some mo)] 88)).heap.size) hrow (by simp),by rw[List.pairwise_map]at e2 ⊢;exact e2,HOP.out,?_,Same.trans (show Same w (w.alloc (.cells #[.map (some mo)] 88)) from(Kept.refl _ w).alloc _) (Kept.ofBelow hb)⟩
  rw[hnil]
  constructor
  ·intro e9;rw[e9]at hl2;exact List.eq_nil_of_length_eq_zero hl2.symm
  ·intro e9;rw[e9]at hl2;exact List.eq_nil_of_length_eq_zero hl2)
 clear HS hS hrow hnil hb
 go_wp2_with fail
 go_ret
 exact HF.out

end

end Go.Proofs.YtcfociogljhbiaaGreatDoor
