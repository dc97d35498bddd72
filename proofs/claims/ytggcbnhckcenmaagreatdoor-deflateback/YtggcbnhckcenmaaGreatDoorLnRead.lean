import Derived.Test.YtggcbnhckcenmaaGreatDoorLnStep
import Derived.Test.YtggcbnhckcenmaaGreatDoorHRowsW
namespace Go.Proofs.YtggcbnhckcenmaaGreatDoor
open Go.RowKit

theorem src_nats(w:World)(zs:List Nat)(n:Nat)(hn:zs.length=n):SrcE natV (w.alloc (.cells (zs.map natV).toArray 3)) (fun k=>k=w.heap.size) (.slice (some ⟨w.heap.size,0,none⟩) n n) zs:=by
 subst hn
 refine⟨_,_,rfl,Nat.le_refl _,fun _=>⟨_,_,rfl,rfl,fun j hj=>?_⟩⟩
 simp[hj]

theorem RW.down{w w0 w':World}{go n:Nat}{ns:List Nat}{p:Nat→Prop}{rs:List (Option Addr×Nat×Nat)}(h:RW w0 w' go n ns p rs)(hk:Same w w0):RW w w' go n ns p rs:=
 ⟨RowE.base h.row hk.size,fun s hs hp=>⟨(h.have' s hs hp).1,fun k e=>Nat.le_trans hk.size ((h.have' s hs hp).2 k e)⟩,h.none',Same.trans hk h.same⟩

theorem chk_codes(l:List Nat)(hl:l.length=19)(h7:∀x∈l,x≤7):chk (l.map (fun(n:Nat)=>(n:Int)))=chkN l:=by
 have hok:okAll (l.map (fun(n:Nat)=>(n:Int))) 0 15=true:=by
  simp only[okAll,List.length_map,Bool.and_eq_true,decide_eq_true_eq,Bool.not_eq_true',List.any_eq_false]
  refine⟨⟨by omega,by omega⟩,fun z hz=>?_⟩
  obtain⟨n,hn,rfl⟩:=List.mem_map.1 hz
  have:=h7 n hn
  simp[badI];omega
 unfold chk
 rw[if_pos hok,List.map_map]
 have e:l.map (Int.toNat ∘ fun(n:Nat)=>(n:Int))=l:=by
  conv=>rhs;rw[←List.map_id l]
  exact List.map_congr_left (fun n _=>by simp)
 rw[e]

theorem stepF_le{ns ls:List Nat}{c s x c':Nat}(h:stepF ns ls c=.ok ((s,x),c')):c'≤ls.length:=by
 unfold stepF at h
 split at h
 ·cases h
 ·split at h
  ·cases h
  ·simp only[Except.ok.injEq,Prod.mk.injEq]at h
   omega

theorem bodyF_step{ns ls:List Nat}{N f c s x c':Nat}{l:List Nat}(hl:l.length<N)(hs:stepF ns ls c=.ok ((s,x),c')):bodyF ns ls N (f+1) l c=match withM l ((s:Int),(x:Int)) N with | none=>.error 41 | some m=>bodyF ns ls N f m c':=by
 simp only[bodyF]
 rw[if_neg (by omega),hs]
 rfl

theorem bodyF_err{ns ls:List Nat}{N f c e:Nat}{l:List Nat}(hl:l.length<N)(hs:stepF ns ls c=.error e):bodyF ns ls N (f+1) l c=.error e:=by
 simp only[bodyF]
 rw[if_neg (by omega),hs]

theorem bodyF_end{ns ls:List Nat}{N f c:Nat}{l:List Nat}(hl:N≤l.length):bodyF ns ls N f l c=.ok (l,c):=by
 cases f with
 | zero=>rfl
 | succ f=>simp only[bodyF];rw[if_pos hl]

theorem stepF_ge{ns ls:List Nat}{c s x c':Nat}(h:stepF ns ls c=.ok ((s,x),c')):c≤c':=by
 unfold stepF at h
 split at h
 ·cases h
 ·split at h
  ·cases h
  ·simp only[Except.ok.injEq,Prod.mk.injEq]at h
   omega

theorem ord_le:∀i,i<19→ord.getD i 0≤18:=by decide

end Go.Proofs.YtggcbnhckcenmaaGreatDoor
