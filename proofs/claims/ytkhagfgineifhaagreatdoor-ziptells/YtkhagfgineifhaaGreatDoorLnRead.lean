import Derived.Test.YtkhagfgineifhaaGreatDoorLnRef
import Derived.Test.YtkhagfgineifhaaGreatDoorRowX
import Derived.Test.YtkhagfgineifhaaGreatDoorBlk
import Derived.Test.YtkhagfgineifhaaGreatDoorHNextM
import Derived.Test.YtkhagfgineifhaaGreatDoorBits
import Derived.Test.YtkhagfgineifhaaGreatDoorReader
import Derived.Deep.RegionLaw
import Derived.Test.YtkhagfgineifhaaGreatDoorHRows
namespace Go.Proofs.YtkhagfgineifhaaGreatDoor
open Go.RowKit
theorem G7(w:World)(zs:List Nat)(n:Nat)(hn:zs.length=n):SrcE am (w.alloc (.cells (zs.map am).toArray 3)) (λk=>k=w.heap.size) (.slice (some ⟨w.heap.size,0,none⟩) n n) zs:=by subst hn;refine⟨_,_,rfl,Nat.le_refl _,λ_=>⟨_,_,rfl,rfl,λj hj=>?_⟩⟩;simp[hj]
theorem iY(l:List Nat)(hl:l.length=19)(h7:∀x∈l,x<=7):chk (l.map (fun(n:Nat)=>(n:Int)))=bw l:=by
 have hok:eC (l.map (fun(n:Nat)=>(n:Int))) 0 15=true:=by simp only[eC,List.length_map,Bool.and_eq_true,decide_eq_true_eq,Bool.not_eq_true',List.any_eq_false];refine⟨⟨by omega,by omega⟩,λz hz=>?_⟩;obtain⟨n,hn,rfl⟩:=List.mem_map.1 hz;have:=h7 n hn;simp[d6];omega
 unfold chk;rw[if_pos hok,List.map_map];have e:l.map (Int.toNat ∘ fun(n:Nat)=>(n:Int))=l:=by
  conv=>rhs;rw[<-List.map_id l]
  exact List.map_congr_left (λn _=>by simp)
 rw[e]
theorem qz{ns ls:List Nat}{c s x c':Nat}(h:dg ns ls c=.ok ((s,x),c')):c'<=ls.length:=by
 unfold dg at h;split at h
 ·cases h
 ·split at h
  ·cases h
  ·simp only[Except.ok.injEq,Prod.mk.injEq]at h;omega
theorem l9{ns ls:List Nat}{N f c s x c':Nat}{l:List Nat}(hl:l.length<N)(hs:dg ns ls c=.ok ((s,x),c')):bC ns ls N (f+1) l c=match ez l ((s:Int),(x:Int)) N with | none=>.error 41 | some m=>bC ns ls N f m c':=by simp only[bC];rw[if_neg (by omega),hs];rfl
theorem sR{ns ls:List Nat}{N f c e:Nat}{l:List Nat}(hl:l.length<N)(hs:dg ns ls c=.error e):bC ns ls N (f+1) l c=.error e:=by simp only[bC];rw[if_neg (by omega),hs]
theorem kE{ns ls:List Nat}{N f c:Nat}{l:List Nat}(hl:N<=l.length):bC ns ls N f l c=.ok (l,c):=by
 cases f with
 | zero=>rfl
 | succ f=>simp only[bC];rw[if_pos hl]
theorem rH{ns ls:List Nat}{c s x c':Nat}(h:dg ns ls c=.ok ((s,x),c')):c<=c':=by
 unfold dg at h;split at h
 ·cases h
 ·split at h
  ·cases h
  ·simp only[Except.ok.injEq,Prod.mk.injEq]at h;omega
theorem uJ:∀i,i<19->ord.getD i 0<=18:=by decide
end Go.Proofs.YtkhagfgineifhaaGreatDoor
