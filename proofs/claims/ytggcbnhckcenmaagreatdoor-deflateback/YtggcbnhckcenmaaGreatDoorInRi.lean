import Derived.Test.YtggcbnhckcenmaaGreatDoorInRd
namespace Go.Proofs.YtggcbnhckcenmaaGreatDoor
set_option maxRecDepth 100000
set_option maxHeartbeats 2000000
open Go.RowKit
inductive RInf(w w':World)(cs:List Nat)(most:Nat)(x:Ending):Prop
 | done(t:Ps)(v':Value)(he:Ends(ofBytes cs)most ps0 t 0)(hx:x=.returned(.tuple #[v',.int .i64(((t.c+7) / 8:Nat):Int),.int .i64 0]))(hr:Row w' v' t.out)(hv:∀k,v'.ownBlock=some k→w.heap.size≤k)(hk:Same w w')
 | fail(t:Ps)(er:Nat)(he:Ends(ofBytes cs)most ps0 t er)(h0:er≠0)(hx:x=.returned(.tuple #[.slice none 0 0,.int .i64 0,.int .i64(er:Nat)]))(hk:Same w w')

theorem RInf.is {w w':World}{cs:List Nat}{most:Nat}{x:Ending}{t0:Ps}(h:RInf w w' cs most x)(he:Ends(ofBytes cs)most ps0 t0 0):∃v',x=.returned(.tuple #[v',.int .i64(((t0.c+7) / 8:Nat):Int),.int .i64 0])∧Row w' v' t0.out∧(∀k,v'.ownBlock=some k→w.heap.size≤k)∧Same w w':=by
 cases h with
 | done t v' he' hx hr hv hk=>
  obtain⟨rfl,_⟩:=he'.det he
  exact⟨v',hx,hr,hv,hk⟩
 | fail t er he' h0 hx hk=>exact absurd(he'.det he).2 h0

theorem rinfl_any(w:World)(v:Value)(I:Nat→Prop)(cs:List Nat)(most:Nat)(hv:Src w I v cs)(hb:∀b∈cs,b<256)(hlen:cs.length≤100000)(hm:most≤16384):
  Calls Tryz.prog 39 #[v,.int .i64(most:Nat)]w fun x w'=>RInf w w' cs most x:=by
 have HRD:=read5_any w v I cs most hv hb hlen hm
 have b1:decide((most:Int)<0)=false:=by simp
 have b2:decide((16384:Int)<(most:Int))=false:=by simp;omega
 clear hv hb
 go_enter Tryz.func39,Tryz.ntmps39
 go_wp2_with fail
 refine HRD.mono ?_
 rintro x w1⟨h,vb,c,vo,rfl,hr⟩
 obtain⟨t,he,ho,hc⟩:=infl_says(ofBytes cs)(ofBytes_lt cs)most
 have k1:=hr.blk.cell 1
 have k2:=hr.blk.cell 2
 have k4:=hr.blk.cell 4
 simp at k1 k2 k4
 have HSM:Hid(Same w w1):=hid hr.same
 obtain⟨er,her⟩:∃er,(infl5(ofBytes cs)most).e=er:=⟨_,rfl⟩
 rw[her]at k4 he ho hc
 by_cases h0:er=0
 ·subst h0
  have HR:Hid(Row w1 vo t.out∧∀k,vo.ownBlock=some k→w.heap.size≤k):=hid⟨by rw[ho(.inl rfl)];exact hr.row,hr.onew⟩
  have HE:Hid(Ends(ofBytes cs)most ps0 t 0):=he
  have hce:c=t.c:=by rw[hr.pl her,hc rfl]
  have hcb:c≤800000:=by have:=hr.le;rw[ofBytes_length]at this;omega
  obtain⟨s7,hs7⟩:∃s,s=c+7:=⟨_,rfl⟩
  obtain⟨q,hq⟩:∃q,q=s7 / 8:=⟨_,rfl⟩
  have q1:(c:Int)+7=(s7:Int):=by omega
  have q2:IntKind.i64.wrap(s7:Int)=(s7:Int):=by rw[IntKind.wrap_i64];omega
  have q3:(s7:Int) / 8=(q:Int):=by omega
  have q4:Int.tdiv(s7:Int)8=(q:Int):=by rw[Int.tdiv_eq_ediv_of_nonneg(by omega)];exact q3
  have q5:IntKind.i64.wrap(q:Int)=(q:Int):=by rw[IntKind.wrap_i64];omega
  have HQ:Hid(q=(t.c+7) / 8):=hid(by rw[hq,hs7,hce])
  obtain⟨a2,c2,hv2,_⟩:=HR.out.1.shape
  generalize t.out.length=n2 at hv2
  subst hv2
  clear hr he ho hc her hce hcb hs7 hq HRD
  go_wp2_with fail
  go_quiet(fail)
  go_wp2_with fail
  refine bodyPost_ret(v:=.tuple #[.slice a2 n2 c2,.int .i64(q:Nat),.int .i64 0])(by simp[results,Tryz.results39,go_sem])rfl ?_
  exact .done t _ HE.out(by rw[←HQ.out])(HR.out.1.kept((Kept.refl(fun _=>False)_).drewN _)(fun _ _ f=>f))HR.out.2(HSM.out.drewN _)
 ·have HE:Hid(Ends(ofBytes cs)most ps0 t er∧er≠0):=hid⟨he,h0⟩
  have hed:((er:Int) != 0)=true:=by simp;omega
  clear hr he ho hc her h0 HRD
  go_wp2_with fail
  try go_quiet(fail)
  try go_wp2_with fail
  refine bodyPost_ret(v:=.tuple #[.slice none 0 0,.int .i64 0,.int .i64(er:Nat)])(by simp[results,Tryz.results39,go_sem])rfl ?_
  exact .fail t er HE.out.1 HE.out.2 rfl(by first | exact HSM.out | exact HSM.out.drewN _)

end Go.Proofs.YtggcbnhckcenmaaGreatDoor
