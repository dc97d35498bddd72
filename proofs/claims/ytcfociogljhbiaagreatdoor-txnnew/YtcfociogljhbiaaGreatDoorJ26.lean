/-
  Of the proof: parts ChPm, ChTx.
-/
import Derived.Deep.Slices
import Derived.Deep.Strs
import Derived.Test.YtcfociogljhbiaaGreatDoorJ17
import Derived.Test.YtcfociogljhbiaaGreatDoorJ7
import Derived.Test.YtcfociogljhbiaaGreatDoorJ24

namespace Go.Proofs.YtcfociogljhbiaaGreatDoor
open Go.RowKit Go.Maps Go.Sort
section
variable {w w1:World} {p K:Nat} {M:Mst}
def prM(M:Mst)(t:Int):Mst:=if t≤M.floor then M else pruM M (min t M.now)

end

end Go.Proofs.YtcfociogljhbiaaGreatDoor

namespace Go.Proofs.YtcfociogljhbiaaGreatDoor
open Go.RowKit Go.Maps Go.Sort

set_option maxRecDepth 100000 in
set_option maxHeartbeats 1000000 in
theorem texts_true(w:World)(N N':Nat)(v v':Value)(xs:List Nm)(h:RowE N 9 nmV w v xs)(h':RowE N' 9 nmV w v' xs)(hl:xs.length≤1000000):Calls Tryz.prog 33 #[v,v'] w fun e w'=>e=.returned (.bool true)∧Same w w':=by
 obtain⟨a,c,hv,hg,_⟩:=h.shape
 obtain⟨a',c',hv',hg',_⟩:=h'.shape
 obtain⟨n,hn⟩:∃n,n=xs.length:=⟨_,rfl⟩
 rw[←hn]at hv hv' hl
 subst hv hv'
 have HR:Hid (∀w',Same w w'→RowE N 9 nmV w' (.slice a n c) xs∧RowE N' 9 nmV w' (.slice a' n c') xs):=hid (fun w' hk=>⟨h.kept hk (fun _ _ f=>f),h'.kept hk (fun _ _ f=>f)⟩)
 have HG:Hid ((xs≠[]→∃g,a=some ⟨g,0,none⟩)∧(xs≠[]→∃g,a'=some ⟨g,0,none⟩)∧n=xs.length∧n≤1000000):=hid ⟨hg,hg',hn,hl⟩
 have hb1:((n:Int) != (n:Int))=false:=by simp
 clear h h' hg hg' hn hl
 go_enter Tryz.func33,Tryz.ntmps33
 go_wp2_with fail
 go_loopg [5] n (fun q z wr=>∃i:Nat,n-i≤q∧i≤n∧z=.int .i64 (i:Nat)∧Hid (Same w wr))
 case atStart=>exact⟨0,by omega,by omega,rfl,hid (Kept.refl _ _)⟩
 case round=>
  obtain⟨i,hq,hil,rfl,HS⟩:=hrel
  by_cases hlt:i<n
  ·have hli:decide (i<n)=true:=decide_eq_true hlt
   have hli2:(i:Int)<(n:Int):=by omega
   have hlt2:i<xs.length:=by have:=HG.out.2.2.1;omega
   obtain⟨g,hg⟩:=HG.out.1 (fun e=>by rw[e]at hlt2;simp at hlt2)
   obtain⟨g',hg'⟩:=HG.out.2.1 (fun e=>by rw[e]at hlt2;simp at hlt2)
   subst hg hg'
   obtain⟨y,hy⟩:∃y,y=xs[i]:=⟨_,rfl⟩
   have k0:wr.cell? ⟨g,i,none⟩=some (.string y.s):=by rw[hy];exact(HR.out wr HS.out).1.cell i hlt2
   have j0:wr.cell? ⟨g',i,none⟩=some (.string y.s):=by rw[hy];exact(HR.out wr HS.out).2.cell i hlt2
   have hiw:IntKind.i64.wrap ((i:Int)+1)=((i+1:Nat):Int):=by have:=HG.out.2.2.2;rw[IntKind.wrap_i64];omega
   clear hy
   go_wp2_with fail
   go_region
   all_goals go_wp2_with fail
   all_goals go_roundg (gk-1)
   all_goals first
    | (case measure=>omega)
    | skip
   all_goals exact⟨i+1,by omega,by omega,by go_num,hid HS.out.drew⟩
  ·have hli:decide (i<n)=false:=decide_eq_false hlt
   go_wp2_with fail
   go_ret
   exact⟨rfl,HS.out⟩

theorem xlist{K N:Nat}{w:World}{p:Nat}{M:Mst}{ρ:Nat→Nat}(h:Sto K N w p M ρ)(b:Bx)(t:Int):Calls Tryz.prog 111 #[.pointer (some ⟨p,0,none⟩),.agg #[.string b.tn,.string b.ar],.int .i64 t] w fun e w'=>LisA w (fun n=>isTh (M.V b n) (max t M.floor)) e w':=by
 obtain⟨s,mb,g,rfl⟩:=h
 exact list_any g b t

theorem lis_det{f:Nm→Bool}{L L':List Nm}(h:RisN L∧∀n,n∈L↔f n=true)(h':RisN L'∧∀n,n∈L'↔f n=true):L=L':=
 strict_ext (R:=fun a b:Nm=>bysN a<bysN b) (fun _=>List.lt_irrefl _) (fun _ _ _=>List.lt_trans) h.1 h'.1 (fun x=>by rw[h.2,h'.2])

end Go.Proofs.YtcfociogljhbiaaGreatDoor
