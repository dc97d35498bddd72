import Derived.Test.YtggcbnhckcenmaaGreatDoorInPe
import Derived.Test.YtggcbnhckcenmaaGreatDoorLnTk
namespace Go.Proofs.YtggcbnhckcenmaaGreatDoor
open Go.RowKit

def NumA(w':World)(p:Nat)(s:Value)(bs:List Nat)(e:Ending):Except Nat (Nat×Nat)→Prop
 | .error er=>e=.returned (.tuple #[.int .i64 0,.int .i64 (er:Nat)])∧er≠0∧∃c',c'≤8*bs.length∧St w' p s bs c'
 | .ok (x,c')=>e=.returned (.tuple #[.int .i64 (x:Nat),.int .i64 0])∧c'≤8*bs.length∧St w' p s bs c'

set_option maxHeartbeats 1000000 in
theorem ptake_any(w:World)(p c n:Nat)(s:Value)(bs:List Nat)(hs:St w p s bs c)(hc:c≤8*bs.length)(hlen:bs.length≤100000000)(hn:n≤32):
  Calls Tryz.prog 113 #[.pointer (some ⟨p,0,none⟩),.int .i64 (n:Nat)] w fun e w'=>NumA w' p s bs e (tkP (ofBytes bs) c n)∧Kept (·=p) w w':=by
 have HS:Hid (St w p s bs c):=hs
 by_cases hf:c+n≤8*bs.length
 ·have HT:=take_good p c n s bs w hs (by omega) hn hf
  rw[num_bits bs hs.byte c n hf]at HT
  have HE:Hid (tkP (ofBytes bs) c n=.ok (numAt (ofBytes bs) c n,c+n)):=hid (tkP_is (by rw[ofBytes_length];exact hf))
  obtain⟨x,hx⟩:∃x,x=numAt (ofBytes bs) c n:=⟨_,rfl⟩
  have hxl:x<2 ^ 32:=by
   rw[hx]
   exact Nat.lt_of_lt_of_le (numAt_lt _ (ofBytes_lt bs) _ _) (Nat.pow_le_pow_right (by decide) hn)
  rw[←hx]at HT HE
  have hxw:wrap64 (x:Int)=(x:Int):=by unfold wrap64;omega
  have HF:Hid (c+n≤8*bs.length):=hf
  clear hx hf hs hc
  go_enter Tryz.func113,Tryz.ntmps113
  go_wp2_with fail
  refine HT.mono ?_
  rintro e w2 ⟨rfl,hs2,hk2⟩
  have HS2:Hid (St w2 p s bs (c+n)):=hs2
  have HK2:Hid (Kept (·=p) w w2):=hk2
  clear hs2 hk2 HT
  go_wp2_with fail
  go_ret2
  rw[HE.out]
  exact⟨⟨rfl,HF.out,HS2.out⟩,HK2.out⟩
 ·have HT:=take_end p c n s bs w hs hc (by omega) hn (by omega)
  have HE:Hid (tkP (ofBytes bs) c n=.error 55):=hid (tkP_end (by rw[ofBytes_length];omega))
  have HC:Hid (c≤8*bs.length):=hc
  clear hf hs hc
  go_enter Tryz.func113,Tryz.ntmps113
  go_wp2_with fail
  refine HT.mono ?_
  rintro e w2 ⟨rfl,m,hw2⟩
  subst hw2
  clear HT
  go_wp2_with fail
  go_ret2
  rw[HE.out]
  exact⟨⟨rfl,by decide,c,HC.out,HS.out.drewN m⟩,(Kept.refl _ w).drewN m⟩

theorem NumA.err{w':World}{p:Nat}{s:Value}{bs:List Nat}{e:Ending}{er:Nat}(h:NumA w' p s bs e (.error er)):e=.returned (.tuple #[.int .i64 0,.int .i64 (er:Nat)])∧er≠0∧∃c',c'≤8*bs.length∧St w' p s bs c':=h
theorem NumA.ok{w':World}{p:Nat}{s:Value}{bs:List Nat}{e:Ending}{x c':Nat}(h:NumA w' p s bs e (.ok (x,c'))):e=.returned (.tuple #[.int .i64 (x:Nat),.int .i64 0])∧c'≤8*bs.length∧St w' p s bs c':=h

set_option maxHeartbeats 1000000 in
theorem psym_nil(w:World)(rv':Value)(last:Nat):
  Calls Tryz.prog 117 #[rv',.pointer none,.int .i64 (last:Nat)] w fun e w'=>e=.returned (.tuple #[.int .i64 0,.int .i64 53])∧w'=w:=by
 have HN:=next_none w rv'
 go_enter Tryz.func117,Tryz.ntmps117
 go_wp2_with fail
 refine HN.mono ?_
 rintro e w2 ⟨rfl,hw2⟩
 subst hw2
 clear HN
 go_wp2_with fail
 go_ret2
 exact⟨rfl,rfl⟩

theorem Lok.good{l:List Nat}(h:Lok l):Good (l.map (fun(n:Nat)=>(n:Int))) l:=
 ⟨by rw[List.map_map];rfl,by simp,h.pos,h.max,h.le,h.ok,rfl⟩

set_option maxHeartbeats 2000000 in
theorem psym_any(w:World)(d:Nat)(vc vs:Value)(ns:List Nat)(p c last:Nat)(s:Value)(bs:List Nat)(hg:Lok ns)(hd:Dec w d vc vs ns)(hs:St w p s bs c)(hc:c≤8*bs.length)(hlen:bs.length≤100000000)(hdis:∀k,DF d vc vs k→¬Fp p s k):
  Calls Tryz.prog 117 #[.pointer (some ⟨p,0,none⟩),.pointer (some ⟨d,0,none⟩),.int .i64 (last:Nat)] w fun e w'=>NumA w' p s bs e (syP ns (ofBytes bs) c last)∧Kept (·=p) w w':=by
 have HN:=lnext_any w d vc vs _ ns p c s bs hg.good hd hs hc hlen hdis
 obtain⟨y,k,g,hn⟩:∃y k g,nextF ns ((ofBytes bs).drop c)=(y,k,g):=⟨_,_,_,rfl⟩
 rw[hn]at HN
 simp only at HN
 have h3:=nextF_ends ns ((ofBytes bs).drop c)
 rw[hn]at h3
 simp only at h3
 clear hd hs hdis
 rcases h3 with rfl | rfl | rfl
 ·by_cases hl:last<y
  ·have HE:Hid (syP ns (ofBytes bs) c last=.error 53):=hid (syP_far hn hl)
   have hld:decide (last<y)=true:=by simp;omega
   clear hn hl
   go_enter Tryz.func117,Tryz.ntmps117
   go_wp2_with fail
   refine HN.mono ?_
   rintro e w2 ⟨rfl,hst,hc2,hk⟩
   have HST:Hid (St w2 p s bs (c+k)):=hst
   have HC2:Hid (c+k≤8*bs.length):=hc2
   have HK:Hid (Kept (·=p) w w2):=hk
   clear HN hst hc2 hk
   go_wp2_with fail
   go_ret2
   rw[HE.out]
   exact⟨⟨rfl,by decide,_,HC2.out,HST.out⟩,HK.out⟩
  ·have HE:Hid (syP ns (ofBytes bs) c last=.ok (y,c+k)):=hid (syP_is hn (by omega))
   have hld:decide (last<y)=false:=by simp;omega
   clear hn hl
   go_enter Tryz.func117,Tryz.ntmps117
   go_wp2_with fail
   refine HN.mono ?_
   rintro e w2 ⟨rfl,hst,hc2,hk⟩
   have HST:Hid (St w2 p s bs (c+k)):=hst
   have HC2:Hid (c+k≤8*bs.length):=hc2
   have HK:Hid (Kept (·=p) w w2):=hk
   clear HN hst hc2 hk
   go_wp2_with fail
   go_ret2
   rw[HE.out]
   exact⟨⟨rfl,HC2.out,HST.out⟩,HK.out⟩
 ·have HE:Hid (syP ns (ofBytes bs) c last=.error 55):=hid (syP_short (by rw[hn]))
  clear hn
  go_enter Tryz.func117,Tryz.ntmps117
  go_wp2_with fail
  refine HN.mono ?_
  rintro e w2 ⟨rfl,hst,hc2,hk⟩
  have HST:Hid (St w2 p s bs (c+k)):=hst
  have HC2:Hid (c+k≤8*bs.length):=hc2
  have HK:Hid (Kept (·=p) w w2):=hk
  clear HN hst hc2 hk
  go_wp2_with fail
  go_ret2
  rw[HE.out]
  exact⟨⟨rfl,by decide,_,HC2.out,HST.out⟩,HK.out⟩
 ·have HE:Hid (syP ns (ofBytes bs) c last=.error 53):=hid (syP_none (by rw[hn]))
  clear hn
  go_enter Tryz.func117,Tryz.ntmps117
  go_wp2_with fail
  refine HN.mono ?_
  rintro e w2 ⟨rfl,hst,hc2,hk⟩
  have HST:Hid (St w2 p s bs (c+k)):=hst
  have HC2:Hid (c+k≤8*bs.length):=hc2
  have HK:Hid (Kept (·=p) w w2):=hk
  clear HN hst hc2 hk
  go_wp2_with fail
  go_ret2
  rw[HE.out]
  exact⟨⟨rfl,by decide,_,HC2.out,HST.out⟩,HK.out⟩

theorem xor_ones:∀n x:Nat,x<2 ^ n→x ^^^ (2 ^ n-1)=2 ^ n-1-x:=by
 intro n x hx
 refine Nat.eq_of_testBit_eq (fun i=>?_)
 rw[Nat.testBit_xor,Nat.testBit_two_pow_sub_one,Nat.sub_sub,Nat.add_comm 1 x,Nat.testBit_two_pow_sub_succ hx]
 by_cases h:i<n
 ·simp[h]
 ·have:x.testBit i=false:=Nat.testBit_lt_two_pow (Nat.lt_of_lt_of_le hx (Nat.pow_le_pow_right (by decide) (by omega)))
  simp[h,this]

theorem xor_all(x:Nat)(hx:x<65536):bits .xor .i64 (x:Int) 65535=((65535-x:Nat):Int):=by
 have h1:(BitVec.ofInt 64 (x:Int)).toNat=x:=by
  rw[BitVec.ofInt_natCast,BitVec.toNat_ofNat];exact Nat.mod_eq_of_lt (by omega)
 have h2:(BitVec.ofInt 64 (65535:Int)).toNat=65535:=by decide
 show IntKind.i64.wrap ((BitVec.ofInt 64 (x:Int) ^^^ BitVec.ofInt 64 (65535:Int)).toNat:Int)=_
 have h3:=xor_ones 16 x hx
 have h4:(2:Nat) ^ 16-1=65535:=by decide
 rw[h4]at h3
 rw[BitVec.toNat_xor,h1,h2,h3,IntKind.wrap_i64]
 omega

theorem ceil_le(bs:List Nat)(c:Nat)(hc:c≤8*bs.length):(c+7) / 8*8≤8*bs.length:=by omega

set_option maxHeartbeats 2000000 in
theorem pcount_any(w:World)(p c:Nat)(s:Value)(bs:List Nat)(hs:St w p s bs c)(hc:c≤8*bs.length)(hlen:bs.length≤100000000):
  Calls Tryz.prog 114 #[.pointer (some ⟨p,0,none⟩)] w fun e w'=>NumA w' p s bs e (cntP (ofBytes bs) c)∧Kept (·=p) w w':=by
 have HA:=ralign_any p c s bs w hs (by omega)
 have hca:=ceil_le bs c hc
 obtain⟨a,ha⟩:∃a,a=(c+7) / 8*8:=⟨_,rfl⟩
 have HEQ:Hid (cntP (ofBytes bs) c=bindP (tkP (ofBytes bs) a 16) (fun n c1=>bindP (tkP (ofBytes bs) c1 16) (fun t c2=>if n+t=65535 then .ok (n,c2)else .error 51))):=hid (by rw[ha];rfl)
 rw[←ha]at HA hca
 have HLEN:Hid (bs.length≤100000000):=hlen
 have HCA:Hid (a≤8*bs.length):=hca
 clear hs ha hc hlen hca
 go_enter Tryz.func114,Tryz.ntmps114
 go_wp2_with fail
 refine HA.mono ?_
 rintro e w1 ⟨rfl,hs1,hk1⟩
 have HK1:Hid (Kept (·=p) w w1):=hk1
 have HT:=ptake_any w1 p a 16 s bs hs1 HCA.out HLEN.out (by decide)
 clear HA hk1 hs1
 cases ht:tkP (ofBytes bs) a 16 with
 | error er=>
  rw[ht]at HT
  have HE:Hid (cntP (ofBytes bs) c=.error er):=hid (by rw[HEQ.out,bindP_no ht])
  clear ht HEQ
  go_wp2_with fail
  refine HT.mono ?_
  rintro e w2 ⟨hn2,hk2⟩
  obtain⟨rfl,her,hst⟩:=hn2.err
  have hed:((er:Int) != 0)=true:=by simp;omega
  have HST:Hid (∃c',c'≤8*bs.length∧St w2 p s bs c'):=hst
  have HK2:Hid (Kept (·=p) w w2):=hid (HK1.out.trans hk2 (fun _ _ h=>h) (fun _ _ h=>h))
  have HER2:Hid (er≠0):=her
  clear hn2 hst hk2 HT her
  go_wp2_with fail
  go_ret2
  rw[HE.out]
  exact⟨⟨rfl,HER2.out,HST.out⟩,HK2.out⟩
 | ok x=>
  obtain⟨x,c2⟩:=x
  rw[ht]at HT
  have HE1:Hid (cntP (ofBytes bs) c=bindP (tkP (ofBytes bs) c2 16) (fun t c2=>if x+t=65535 then .ok (x,c2)else .error 51)):=hid (by rw[HEQ.out,bindP_is ht])
  have hx16:x<65536:=by
   rw[(tkP_ok ht).1]
   exact numAt_lt _ (ofBytes_lt bs) _ _
  clear ht HEQ
  go_wp2_with fail
  refine HT.mono ?_
  rintro e w2 ⟨hn2,hk2⟩
  obtain⟨rfl,hc2,hst⟩:=hn2.ok
  have HT2:=ptake_any w2 p c2 16 s bs hst hc2 HLEN.out (by decide)
  have HK2:Hid (Kept (·=p) w w2):=hid (HK1.out.trans hk2 (fun _ _ h=>h) (fun _ _ h=>h))
  clear hn2 hst hk2 HT hc2
  cases ht:tkP (ofBytes bs) c2 16 with
  | error er=>
   rw[ht]at HT2
   have HE:Hid (cntP (ofBytes bs) c=.error er):=hid (by rw[HE1.out,bindP_no ht])
   clear ht
   go_wp2_with fail
   refine HT2.mono ?_
   rintro e w3 ⟨hn2,hk2⟩
   obtain⟨rfl,her,hst⟩:=hn2.err
   have hed:((er:Int) != 0)=true:=by simp;omega
   have HST:Hid (∃c',c'≤8*bs.length∧St w3 p s bs c'):=hst
   have HK3:Hid (Kept (·=p) w w3):=hid (HK2.out.trans hk2 (fun _ _ h=>h) (fun _ _ h=>h))
   have HER2:Hid (er≠0):=her
   clear hn2 hst hk2 HT2 her
   go_wp2_with fail
   go_ret2
   rw[HE.out]
   exact⟨⟨rfl,HER2.out,HST.out⟩,HK3.out⟩
  | ok t=>
   obtain⟨t,c3⟩:=t
   rw[ht]at HT2
   have HE:Hid (cntP (ofBytes bs) c=if x+t=65535 then .ok (x,c3)else .error 51):=hid (by rw[HE1.out,bindP_is ht])
   have ht16:t<65536:=by
    rw[(tkP_ok ht).1]
    exact numAt_lt _ (ofBytes_lt bs) _ _
   clear ht HE1
   go_wp2_with fail
   refine HT2.mono ?_
   rintro e w3 ⟨hn2,hk2⟩
   obtain⟨rfl,hc3,hst⟩:=hn2.ok
   have HST:Hid (St w3 p s bs c3):=hst
   have HC3:Hid (c3≤8*bs.length):=hc3
   have HK3:Hid (Kept (·=p) w w3):=hid (HK2.out.trans hk2 (fun _ _ h=>h) (fun _ _ h=>h))
   clear hn2 hst hk2 HT2 hc3
   have hxr:bits .xor .i64 (x:Int) 65535=((65535-x:Nat):Int):=xor_all x hx16
   obtain⟨y,hy⟩:∃y,y=65535-x:=⟨_,rfl⟩
   rw[←hy]at hxr
   by_cases heq:t=y
   ·have hte:((t:Int) != (y:Int))=false:=by simp[heq]
    have HE2:Hid (cntP (ofBytes bs) c=.ok (x,c3)):=hid (by rw[HE.out,if_pos (by omega)])
    clear heq HE hy
    go_wp2_with fail
    go_ret2
    rw[HE2.out]
    exact⟨⟨rfl,HC3.out,HST.out⟩,HK3.out⟩
   ·have hte:((t:Int) != (y:Int))=true:=by simp;omega
    have HE2:Hid (cntP (ofBytes bs) c=.error 51):=hid (by rw[HE.out,if_neg (by omega)])
    clear heq HE hy
    go_wp2_with fail
    go_ret2
    rw[HE2.out]
    exact⟨⟨rfl,by decide,_,HC3.out,HST.out⟩,HK3.out⟩

end Go.Proofs.YtggcbnhckcenmaaGreatDoor
