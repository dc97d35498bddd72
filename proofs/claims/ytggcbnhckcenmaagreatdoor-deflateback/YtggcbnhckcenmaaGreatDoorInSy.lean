import Derived.Test.YtggcbnhckcenmaaGreatDoorInNm
import Derived.Test.YtggcbnhckcenmaaGreatDoorLnStep
namespace Go.Proofs.YtggcbnhckcenmaaGreatDoor
open Go.RowKit

def syE(g wrong:Nat):Nat:=if g=10 then 55 else if g=32 then wrong else 0

theorem RNext.small{ns t:List Nat}{is k g:Nat}(h:RNext ns t is k g):g=0∨g=10∨g=32:=by
 rcases h with⟨h,_⟩ | ⟨h,_⟩ | ⟨h,_⟩<;>omega
theorem RNext.fits{ns t:List Nat}{is k g:Nat}(h:RNext ns t is k g):k≤t.length:=by
 rcases h with⟨_,_,hf,hk,_⟩ | ⟨_,_,hk,_⟩ | ⟨_,_,hk,_⟩
 ·have h1:=hf.2.length_le
  rw[rowOf_length]at h1
  omega
 ·omega
 ·omega
def SymA(h:Nat)(v:Value)(vo:Value)(most:Nat)(ns ls:List Nat)(c e wrong:Nat)(r:Ending)(w':World):Prop:=
 if e≠0 then r=.returned (.int .i64 0)∧RdB w' h v c vo most e
 else r=.returned (.int .i64 ((nextF ns (ls.drop c)).1:Nat))∧RdB w' h v (c+(nextF ns (ls.drop c)).2.1) vo most (syE (nextF ns (ls.drop c)).2.2 wrong)

set_option maxRecDepth 100000 in
set_option maxHeartbeats 4000000 in
theorem isym_any(w w0:World)(h:Nat)(v:Value)(I:Nat→Prop)(ls:List Nat)(c:Nat)(vo:Value)(most e wrong go L:Nat)(ns:List Nat)(rs:List (Option Addr×Nat×Nat))(hH:RdB w h v c vo most e)(hs:Src w I v ls)(hc:c≤ls.length)(hlen:ls.length≤100000000)
  (hR:RW w0 w go L ns (fun s=>key ns s≠0) rs) (hL:L=ns.length) (hl288:L≤288) (h15:∀s,key ns s≤15):
  Calls Tryz.prog 136 #[.pointer (some ⟨h,0,none⟩),.slice (some ⟨go,0,none⟩) L L,.int .i64 (wrong:Nat)] w fun r w'=>SymA h v vo most ns ls c e wrong r w'∧Kept (·=h) w w':=by
 by_cases he:e=0
 ·subst he
  obtain⟨ao,cap,rfl,hsa⟩:=id hs
  clear hsa
  have HH:Hid (RdB w h (.slice ao ls.length cap) c vo most 0):=hH
  have HS:Hid (Src w I (.slice ao ls.length cap) ls):=hs
  have HR:Hid (RW w0 w go L ns (fun s=>key ns s≠0) rs):=hR
  have HA:Hid (L=ns.length∧∀s,key ns s≤15):=⟨hL,h15⟩
  obtain⟨M,hM⟩:∃M,M=ls.length:=⟨_,rfl⟩
  rw[←hM]at HH HS hc hlen ⊢
  have HM:Hid (M=ls.length):=hM
  obtain⟨is,k,g,hnf⟩:∃is k g,nextF ns (ls.drop c)=(is,k,g):=⟨_,_,_,rfl⟩
  have HNF:Hid (nextF ns (ls.drop c)=(is,k,g)):=hnf
  have hrn:=nextF_is ns (ls.drop c)
  rw[hnf]at hrn
  simp only at hrn
  have HRN:Hid (RNext ns (ls.drop c) is k g):=hrn
  have hkle:c+k≤M:=by
   have:=hrn.fits
   rw[List.length_drop]at this
   omega
  have hg3:=hrn.small
  clear hH hs hR hL h15 hM hnf hrn
  have c0:=HH.out.cell 0
  have c1:=HH.out.cell 1
  have c4:=HH.out.cell 4
  simp at c0 c1 c4
  have HNX:=rnext_any w.drew w0 go L ns rs (.slice ao M cap) I ls c (HR.out.kept (F:=fun _=>False) ((Kept.refl _ w).drew) (fun _ _ f=>f) (fun f=>f) (fun _ _ _ _ _ f=>f)) HA.out.1 hl288 HA.out.2 (HS.out.kept ((Kept.refl (fun _=>False) w).drew) (fun _ _ _ f=>f)) (by have:=HM.out;omega) (by have:=HM.out;omega)
  have HHX:Hid (Calls Tryz.prog 161 #[.slice (some ⟨go,0,none⟩) L L,.slice ao M cap,.int .i64 (c:Nat)] w.drew fun e w'=>e=.returned (.tuple #[.int .i64 (is:Nat),.int .i64 (k:Nat),.int .i64 (g:Nat)])∧Same w w'):=hid (HNX.mono (by
   rintro e w' ⟨⟨is2,k2,g2,rfl,hr2⟩,hk⟩
   obtain⟨rfl,rfl,rfl⟩:=hr2.one HRN.out
   exact⟨rfl,⟨hk.os,hk.tape,hk.output,hk.size,hk.block⟩⟩))
  clear HNX
  obtain⟨ck,hck⟩:∃ck,ck=c+k:=⟨_,rfl⟩
  have hckI:(c:Int)+(k:Int)=(ck:Int):=by omega
  have HCK:Hid (ck=c+k):=hck
  clear hck
  go_enter Tryz.func136,Tryz.ntmps136
  go_wp2_with fail
  go_region_with (go_at_call 161;refine HHX.out.mono ?_;rintro e w4 ⟨rfl,hk4⟩)
  all_goals
   have HK4:Hid (Same w w4):=hk4
   have HH4:Hid (RdB w4 h (.slice ao M cap) c vo most 0):=hid (HH.out.kept hk4 (fun f=>f))
   have d1:=HH4.out.cell 1
   have d4:=HH4.out.cell 4
   have g1:=HH4.out.frozen 1
   have g4:=HH4.out.frozen 4
   simp at d1 d4
   have HKW:Hid (Kept (·=h) w w4):=hid (Kept.mono hk4 (fun _ _ f=>f.elim))
   clear hk4 c0 c1 c4
   have hA:∀e5,e5=syE g wrong→∀wF,RdB wF h (.slice ao M cap) ck vo most e5→Kept (·=h) w wF→SymA h (.slice ao M cap) vo most ns ls c 0 wrong (.returned (.int .i64 (is:Nat))) wF∧Kept (·=h) w wF:=by
    intro e5 h5 wF hb hk
    refine⟨?_,hk⟩
    unfold SymA
    rw[if_neg (by simp),HNF.out]
    simp only
    rw[←HCK.out,←h5]
    exact⟨trivial,hb⟩
   have HAA:Hid (∀e5,e5=syE g wrong→∀wF,RdB wF h (.slice ao M cap) ck vo most e5→Kept (·=h) w wF→SymA h (.slice ao M cap) vo most ns ls c 0 wrong (.returned (.int .i64 (is:Nat))) wF∧Kept (·=h) w wF):=hA
   clear hA
   by_cases hg0:g=0
   ·subst hg0
    go_wp2_with fail
    go_ret
    refine HAA.out 0 rfl _ ?_ (HKW.out.setCell ⟨h,1,none⟩ _ (.inl rfl))
    have hb:=HH4.out.set 1 (.int .i64 (ck:Nat))
    simp at hb
    exact hb
   ·by_cases hg1:g=10
    ·subst hg1
     go_wp2_with fail
     go_ret
     refine HAA.out 55 rfl _ ?_ ((HKW.out.setCell ⟨h,4,none⟩ _ (.inl rfl)).setCell ⟨h,1,none⟩ _ (.inl rfl))
     have hb:=(HH4.out.set 4 (.int .i64 55)).set 1 (.int .i64 (ck:Nat))
     simp at hb
     exact hb
    ·have hg2:g=32:=by omega
     subst hg2
     go_wp2_with fail
     go_ret
     refine HAA.out wrong rfl _ ?_ ((HKW.out.setCell ⟨h,4,none⟩ _ (.inl rfl)).setCell ⟨h,1,none⟩ _ (.inl rfl))
     have hb:=(HH4.out.set 4 (.int .i64 (wrong:Nat))).set 1 (.int .i64 (ck:Nat))
     simp at hb
     exact hb
 ·have hed:((e:Int) != 0)=true:=by simp;omega
  have HE:Hid (e≠0):=he
  have HH:Hid (RdB w h v c vo most e):=hH
  have c4:=hH.cell 4
  simp at c4
  clear he hR hs hH
  go_enter Tryz.func136,Tryz.ntmps136
  go_wp2_with fail
  go_ret
  refine⟨?_,Kept.refl _ _⟩
  unfold SymA
  rw[if_pos HE.out]
  exact⟨rfl,HH.out⟩

structure RowsIn(w0:World)(G:Nat→Prop)(go:Nat)(ns:List Nat)(rs:List (Option Addr×Nat×Nat)):Prop where
 low:∀k,k<w0.heap.size→G k
 at':G go
 own:∀s (hs:s<rs.length),key ns s≠0→∀k,(slV rs[s]).ownBlock=some k→G k

theorem RW.inn{w0 w' w2:World}{G:Nat→Prop}{go n:Nat}{ns:List Nat}{rs:List (Option Addr×Nat×Nat)}(hr:RW w0 w' go n ns (fun s=>key ns s≠0) rs)(hi:RowsIn w0 G go ns rs)(hk:KG G w' w2):RW w0 w2 go n ns (fun s=>key ns s≠0) rs:=
 hr.kept hk (fun k hlt f=>f (hi.low k hlt)) (fun f=>f hi.at') (fun s hs hp k e f=>f (hi.own s hs hp k e))

theorem sy_stuck{ns ls:List Nat}{s:S5}{wrong:Nat}(h:s.e≠0):sy ns ls s wrong=(0,s):=by unfold sy;rw[if_pos h]

theorem sym5(w w0:World)(I G:Nat→Prop)(h:Nat)(v:Value)(ls:List Nat)(most:Nat)(s:S5)(wrong go L:Nat)(ns:List Nat)(rs:List (Option Addr×Nat×Nat))(hz:Sz ls most)(hr:RX w I G h v ls most s)
  (hR:RW w0 w go L ns (fun s=>key ns s≠0) rs) (hL:L=ns.length) (hl288:L≤288) (h15:∀s,key ns s≤15):
  Calls Tryz.prog 136 #[.pointer (some ⟨h,0,none⟩),.slice (some ⟨go,0,none⟩) L L,.int .i64 (wrong:Nat)] w fun r w'=>r=.returned (.int .i64 ((sy ns ls s wrong).1:Nat))∧RX w' I G h v ls most (sy ns ls s wrong).2∧KG G w w':=by
 obtain⟨c,vo,r⟩:=hr
 refine(isym_any w w0 h v I ls c vo most s.e wrong go L ns rs r.blk r.src r.le (by have:=hz.len;omega) hR hL hl288 h15).mono ?_
 rintro x w' ⟨hA,hk⟩
 unfold SymA at hA
 obtain⟨sc,so,se⟩:=s
 by_cases he:se=0
 ·subst he
  have hc:c=sc:=r.pl rfl
  subst hc
  rw[if_neg (by simp)]at hA
  obtain⟨rfl,hb⟩:=hA
  have hrn:=(nextF_is ns (ls.drop c)).fits
  rw[List.length_drop]at hrn
  have hle:=r.le
  have e1:sy ns ls ⟨c,so,0⟩ wrong=((nextF ns (ls.drop c)).1,⟨c+(nextF ns (ls.drop c)).2.1,so,syE (nextF ns (ls.drop c)).2.2 wrong⟩):=by
   unfold sy;rw[if_neg (by simp)];rfl
  rw[e1]
  exact⟨rfl,⟨_,_,r.turn hk hb (fun _=>rfl) (by omega)⟩,r.kg hk⟩
 ·rw[if_pos he]at hA
  obtain⟨rfl,hb⟩:=hA
  rw[sy_stuck he]
  exact⟨rfl,⟨_,_,r.turn hk hb (fun e=>absurd e he) r.le⟩,r.kg hk⟩

end Go.Proofs.YtggcbnhckcenmaaGreatDoor
