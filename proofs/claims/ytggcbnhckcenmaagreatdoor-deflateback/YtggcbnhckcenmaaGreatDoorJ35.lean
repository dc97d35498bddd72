/-
  Of the proof: parts InAx, InLw.
-/
import Derived.Laws.BytesArg
import Derived.Test.YtggcbnhckcenmaaGreatDoorJ34
import Derived.Test.YtggcbnhckcenmaaGreatDoorJ6

namespace Go.Proofs.YtggcbnhckcenmaaGreatDoor
open Go.RowKit

theorem str_of{w:World}{g n c:Nat}{bs:List Nat}(h:Row w (.slice (some ⟨g,0,none⟩) n c) bs)(hn:bs.length=n):(convert 22 9 (.slice (some ⟨g,0,none⟩) n c)).run Tryz.prog w=.ok (.string (strOfNums (bs.map (fun b=>((b:Nat):Int))))) w:=by
 subst hn
 exact run_convert_bytes_arg (P:=Tryz.prog) w 22 5 Tryz.underlying22 Tryz.underlying5 g 0 bs.length c (bs.map (fun b=>((b:Nat):Int))) (by simp) (fun i hi=>by rw[Nat.zero_add,Row.cell h i hi];simp[List.getD,hi]) 9 Tryz.underlying9

theorem Row.addr{w:World}{a:Option Addr}{n c:Nat}{bs:List Nat}(h:Row w (.slice a n c) bs)(hb:bs≠[]):∃g,a=some ⟨g,0,none⟩:=by
 obtain⟨ao,cap,e,hg⟩:=h.shape
 simp only[Value.slice.injEq]at e
 rw[e.1]
 exact hg hb

end Go.Proofs.YtggcbnhckcenmaaGreatDoor

namespace Go.Proofs.YtggcbnhckcenmaaGreatDoor
open Go.RowKit

theorem IsRow.nil5{k:IntKind}{w:World}{a:Option Addr}{len cap:Nat}{zs:List Int}(h:IsRow k w a len cap zs):∀n c,Value.slice a len cap=.slice none n c→n=0∧c=0:=by
 intro n c e
 injection e with e1 e2 e3
 rcases h with⟨_,h2,h3,_⟩ | ⟨x,h1,_⟩
 ·omega
 ·rw[h1]at e1;cases e1

theorem Row.nil5{w:World}{a:Option Addr}{n0 c0:Nat}{bs:List Nat}(h:Row w (.slice a n0 c0) bs):∀n c,Value.slice a n0 c0=.slice none n c→n=0∧c=0:=by
 intro n c e
 rcases h.2 with⟨e9,h9⟩ | ⟨g,cp,cu,e9,_⟩
 ·simp only[Value.slice.injEq]at e e9;omega
 ·simp only[Value.slice.injEq]at e e9;rw[e9.1]at e;cases e.1

theorem keepBytes_same(w:World)(va vb:Value)(I J:Nat→Prop)(xs:List Nat)(ha:Src w I va xs)(hb:Src w J vb xs)(hx:xs.length≤2000000):Calls Tryz.prog 13 #[va,vb] w fun e w'=>e=.returned (.bool true)∧Same w w':=by
 have h:=keepBytes_any va vb I J xs xs w ha hb (by omega) (by omega)
 refine h.mono ?_
 rintro e w' ⟨rfl,m,rfl⟩
 exact⟨by simp,(Kept.refl _ w).drewN m⟩

end Go.Proofs.YtggcbnhckcenmaaGreatDoor
