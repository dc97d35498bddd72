import Derived.Test.YtggcbnhckcenmaaGreatDoorLnTs
namespace Go.Proofs.YtggcbnhckcenmaaGreatDoor
open Go.RowKit

def RStepsA(w w':World)(p:Nat)(s:Value)(bs:List Nat)(c:Nat)(e:Ending):Except Nat (List Nat×Nat)→Prop
 | .error er=>e=.returned (.tuple #[.slice none 0 0,.int .i64 (er:Nat)])∧er≠0∧∃c',c≤c'∧c'≤8*bs.length∧St w' p s bs c'
 | .ok (l,c')=>(∃v',e=.returned (.tuple #[v',.int .i64 0])∧NRow w.heap.size w' v' l)∧c'≤8*bs.length∧St w' p s bs c'

set_option maxRecDepth 100000 in
set_option maxHeartbeats 2000000 in
theorem lsteps_any(w:World)(d:Nat)(vc vs:Value)(zs:List Int)(ns:List Nat)(p c:Nat)(s:Value)(bs:List Nat)(N:Nat)(hg:Good zs ns)(hd:Dec w d vc vs ns)(hs:St w p s bs c)(hc:c≤8*bs.length)(hlen:bs.length≤100000000)(hdis:∀k,DF d vc vs k→¬Fp p s k)(hN:N≤1000):
  Calls Tryz.prog 178 #[.pointer (some ⟨p,0,none⟩),.pointer (some ⟨d,0,none⟩),.int .i64 (N:Nat)] w fun e w'=>RStepsA w w' p s bs c e (bodyF ns (ofBytes bs) N N [] c)∧Kept (·=p) w w':=by
 have HG:Hid (Good zs ns):=hg
 have HD:Hid (Dec w d vc vs ns):=hd
 have HST:Hid (St w p s bs c):=hs
 have HDIS:Hid (∀k,DF d vc vs k→¬Fp p s k):=hdis
 have HP:Hid (∀k,Fp p s k→k<w.heap.size):=hid (fun k h=>hs.fp_lt h)
 clear hg hd hs hdis
 go_enter Tryz.func178,Tryz.ntmps178
 go_wp2_with fail
 go_loopg [8,9,10] N (fun q zo _ _ wr=>∃(l:List Nat) (f ci:Nat),N-l.length≤q∧N-l.length≤f∧c≤ci∧ci≤8*bs.length∧Hid (bodyF ns (ofBytes bs) N N [] c=bodyF ns (ofBytes bs) N f l ci)∧Hid (l.length≤N∧∀x∈l,x≤15)∧Hid (NRow w.heap.size wr zo l)∧Hid (St wr p s bs ci)∧Hid (Kept (·=p) w wr))
 case atStart=>exact⟨[],N,c,by simp,by simp,by omega,hc,rfl,hid ⟨by simp,by simp⟩,RowE.nil,HST,Kept.refl _ _⟩
 case round=>
  clear HST
  obtain⟨l,f,ci,hq,hf,hci,hci8,HBF,HLL,HV,HST,HK⟩:=hrel
  have hsz:=HK.out.size
  have hl1:l.length≤1000000:=by have:=HLL.out.1;omega
  obtain⟨a8,cap8,hv8,_⟩:=HV.out.shape
  subst hv8
  have HDW:Hid (Dec wr d vc vs ns):=hid (HD.out.kept HK.out (fun k h e=>HDIS.out k h (.inl e)))
  have HRS:=lstep_any wr d vc vs zs ns p ci s bs HG.out HDW.out HST.out hci8 hlen HDIS.out
  have HMS:=fun(W:World) (x y:Int)=>mayStand_any W x y l.length N hl1
  have HSAYS:=fun(W:World) (x y:Int) (hr:NRow w.heap.size W (.slice a8 l.length cap8) l) (hB:w.heap.size≤W.heap.size) (hm:mayB (x,y) l.length N)=>say_any W w.heap.size _ l x y N hr hB hl1 hm
  by_cases hlt:l.length<N
  ·obtain⟨f,rfl⟩:∃g,f=g+1:=⟨f-1,by omega⟩
   obtain⟨L,hL⟩:∃L,L=l.length:=⟨_,rfl⟩
   have HL:Hid (L=l.length):=hL
   cases hsf:stepF ns (ofBytes bs) ci with
   | error er=>
    rw[hsf]at HRS
    have HE:Hid (bodyF ns (ofBytes bs) N N [] c=.error er):=hid (by rw[HBF.out,bodyF_err hlt hsf])
    rw[←hL]at HV hq hf hl1 hlt HMS HSAYS ⊢
    clear hsf hL HMS HSAYS
    go_wp2_with fail
    refine HRS.mono ?_
    rintro e w2 ⟨⟨rfl,her,c',hc1,hc2,hs2⟩,hk2⟩
    have HST2:Hid (St w2 p s bs c'):=hs2
    have HK2:Hid (Kept (·=p) w w2):=hid (Kept.trans HK.out hk2 (fun _ _ h=>h) (fun _ _ h=>h))
    have hed:((er:Int) != 0)=true:=by simp;omega
    have HER:Hid (er≠0):=her
    have hcc:c≤c':=by omega
    have HP2:Hid (∀k,Fp p s k→k<w2.heap.size):=hid (fun k h=>by have:=HP.out k h;have:=HK2.out.size;omega)
    clear hs2 hk2 HRS her
    go_wp2_with fail
    go_ret2
    refine⟨?_,HK2.out.alloc _⟩
    rw[HE.out]
    exact⟨rfl,HER.out,c',hcc,hc2,HST2.out.kept ((Kept.refl (fun _=>False) w2).alloc _) (fun _ _ f=>f)⟩
   | ok r=>
    obtain⟨⟨sy,x⟩,c'⟩:=r
    rw[hsf]at HRS
    have HBS:Hid (bodyF ns (ofBytes bs) N N [] c=match withM l ((sy:Int),(x:Int)) N with | none=>.error 41 | some m=>bodyF ns (ofBytes bs) N f m c'):=hid (by rw[HBF.out,bodyF_step hlt hsf];all_goals rfl)
    have hcc:ci≤c':=stepF_ge hsf
    have HMS2:=fun W=>HMS W (sy:Int) (x:Int)
    have HSA2:=fun W=>HSAYS W (sy:Int) (x:Int)
    rw[←hL]at HV hq hf hl1 hlt HMS2 HSA2 ⊢
    clear hsf hL HMS HSAYS
    go_wp2_with fail
    refine HRS.mono ?_
    rintro e w2 ⟨⟨rfl,hc2,hs2⟩,hk2⟩
    have HST2:Hid (St w2 p s bs c'):=hs2
    have HK2:Hid (Kept (·=p) w w2):=hid (Kept.trans HK.out hk2 (fun _ _ h=>h) (fun _ _ h=>h))
    have HV2:Hid (NRow w.heap.size w2 (.slice a8 L cap8) l):=hid (HV.out.kept hk2 (fun k e h=>by have h1:=HV.out.ge e;have h2:=HP.out p (.inl rfl);omega))
    have hsz2:=HK2.out.size
    clear hs2 hk2 HRS HST HK HV HDW
    by_cases hmay:mayB ((sy:Int),(x:Int)) L N
    ·have HM:Hid (withM l ((sy:Int),(x:Int)) N=some (l++List.replicate (leastM (sy:Int)+(x:Int).toNat) (sayV (sy:Int) l))):=hid (withM_may (by rw[←HL.out];exact hmay))
     have HMAY:Hid (mayB ((sy:Int),(x:Int)) L N):=hmay
     clear hmay
     obtain⟨m,hm⟩:∃m,m=l++List.replicate (leastM (sy:Int)+(x:Int).toNat) (sayV (sy:Int) l):=⟨_,rfl⟩
     rw[←hm]at HM HSA2
     have hgr:=withM_grows HM.out HLL.out.2
     have HBM:Hid (bodyF ns (ofBytes bs) N N [] c=bodyF ns (ofBytes bs) N f m c'):=hid (by rw[HBS.out,HM.out])
     have HMM:Hid (m.length≤N∧∀x∈m,x≤15):=hid hgr.2
     have hLm:L<m.length:=by rw[HL.out];exact hgr.1
     clear hm hgr
     go_wp2_with fail
     refine(HMS2 _).mono ?_
     rintro e w3 ⟨he,hk3⟩
     have he2:=he.yes HMAY.out
     subst he2
     have c3:w3.cell? ⟨w2.heap.size,0,none⟩=some (.int .i64 (sy:Nat)):=hk3.cell (by simp) (fun f=>f)
     have c4:w3.cell? ⟨w2.heap.size,1,none⟩=some (.int .i64 (x:Nat)):=hk3.cell (by simp) (fun f=>f)
     have HK3:Hid (Same w2 w3):=hid (Same.trans ((Kept.refl _ w2).alloc _) hk3)
     have hsz3:w.heap.size≤w3.heap.size:=by have h2:=HK3.out.size;omega
     have HSY:=HSA2 w3 (HV2.out.same HK3.out) hsz3 HMAY.out
     clear he hk3 HMS2 HSA2
     go_wp2_with fail
     refine HSY.mono ?_
     rintro e w4 ⟨v4,rfl,hr4,hk4⟩
     have HV4:Hid (NRow w.heap.size w4 v4 m):=hr4
     have HST4:Hid (St w4 p s bs c'):=hid ((HST2.out.kept HK3.out (fun _ _ f=>f)).kept hk4 (fun k h e=>by have:=HP.out k h;unfold Over at e;omega))
     have HK4:Hid (Kept (·=p) w w4):=hid (Kept.trans (Kept.trans HK2.out HK3.out (fun _ _ h=>h) (fun _ _ f=>f.elim)) hk4 (fun _ _ h=>h) (fun k hk e=>by unfold Over at e;omega))
     clear hr4 hk4 HSY c3 c4
     go_wp2_with fail
     go_roundg (gk-1)
     case measure=>omega
     case rel=>exact⟨m,f,c',by omega,by omega,by omega,hc2,HBM,HMM,HV4,HST4,HK4⟩
    ·have HM:Hid (withM l ((sy:Int),(x:Int)) N=none):=hid (withM_no (by rw[←HL.out];exact hmay))
     have HMAY:Hid (¬mayB ((sy:Int),(x:Int)) L N):=hmay
     have HE:Hid (bodyF ns (ofBytes bs) N N [] c=.error 41):=hid (by rw[HBS.out,HM.out])
     have hccc:c≤c':=by omega
     clear hmay
     go_wp2_with fail
     refine(HMS2 _).mono ?_
     rintro e w3 ⟨he,hk3⟩
     have he2:=he.no HMAY.out
     subst he2
     have HK3:Hid (Same w2 w3):=hid (Same.trans ((Kept.refl _ w2).alloc _) hk3)
     clear he hk3 HMS2 HSA2
     go_wp2_with fail
     go_ret2
     refine⟨?_,Kept.trans HK2.out HK3.out (fun _ _ h=>h) (fun _ _ f=>f.elim)⟩
     rw[HE.out]
     exact⟨rfl,by decide,c',hccc,hc2,HST2.out.kept HK3.out (fun _ _ f=>f)⟩
  ·have HE:Hid (bodyF ns (ofBytes bs) N N [] c=.ok (l,ci)):=hid (by rw[HBF.out,bodyF_end (by omega)])
   obtain⟨L,hL⟩:∃L,L=l.length:=⟨_,rfl⟩
   rw[←hL]at HV hlt ⊢
   clear hL HMS HSAYS HRS hq hf
   go_wp2_with fail
   go_ret2
   refine⟨?_,HK.out⟩
   rw[HE.out]
   exact⟨⟨_,rfl,HV.out⟩,hci8,HST.out⟩

end Go.Proofs.YtggcbnhckcenmaaGreatDoor
