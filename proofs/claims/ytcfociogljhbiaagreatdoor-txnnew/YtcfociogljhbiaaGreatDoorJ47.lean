/-
  Of the proof: parts UdP, UdQ, UdR, KInts, UdS, UdT, UdU, UdV, UdW.
-/
import Derived.Test.YtcfociogljhbiaaGreatDoorJ44
import Derived.Test.YtcfociogljhbiaaGreatDoorJ46
import Derived.Test.YtcfociogljhbiaaGreatDoorJ33
import Derived.Test.YtcfociogljhbiaaGreatDoorJ39
import Derived.Test.YtcfociogljhbiaaGreatDoorJ24
import Derived.Test.YtcfociogljhbiaaGreatDoorJ34
import Derived.Test.YtcfociogljhbiaaGreatDoorJ38
import Derived.Test.YtcfociogljhbiaaGreatDoorJ31
import Derived.Test.YtcfociogljhbiaaGreatDoorJ42
import Derived.Test.YtcfociogljhbiaaGreatDoorJ16

namespace Go.Proofs.YtcfociogljhbiaaGreatDoor
open Go.RowKit Go.Maps Go.Sort Go.Shelf Go.Lib

section
variable {w0 w w1 w2:World} {p r K K1 K2 N X X' Br i:Nat} {B:Int} {S S1:Ts} {F G:Nat→Prop} {P P':Rs14} {T:List Nb} {n:Nb}

theorem Bth.next(h:Bth w0 p r i w)(hk:Same w w1):Bth w0 p r (i+1) w1:=by
 obtain⟨K,N,B,S,F,T,X,Br,P,G,hb,hj,hl,hX,hf⟩:=h
 exact⟨K,N,B,S,F,T,X,Br,P,G,hb.same hk,hj.more (by omega),hl,by omega,hf⟩

theorem BT.off(h:BT w0 p r K N B S F X Br P G w){k:Nat}(hk:w.heap.size≤k):¬F k∧¬G k:=
 ⟨fun f=>by have:=(h.mg.lt f).2;omega,fun g=>by have:=(h.rf.lt g).2;omega⟩

theorem all_len{R:Ri}(hR:Rm X Br w r R){j:Nat}{y:Sq Et}(hj:j<R.t.l.length)(hy:R.s.l[R.t.l[j].snap]? = some y)(b:Bx):(lisE (allL R.t.l[j].s.l y.l) b).length≤2*X:=by
 have h1:=lisE_len (allL R.t.l[j].s.l y.l) b
 have h2:=allL_len R.t.l[j].s.l y.l
 have h3:=(hR.ti _ (List.getElem_mem hj)).big.1
 have h4:=hR.big.2.2.2.1 y (List.mem_of_getElem? hy)
 omega

theorem seen_is{R:Ri}(hR:Rm X Br w r R)(hX:X≤40000){j:Nat}(hj:j<R.t.l.length){ow:Nm}{mv:Mv}(hT:TxR S R.abs ow mv R.t.l[j].tx){y:Sq Et}(hy:R.s.l[R.t.l[j].snap]? = some y)(hyl:y.l=R.abs.ss.getD R.t.l[j].snap [])(b:Bx):seeN mv S.M b=lisE (allL R.t.l[j].s.l y.l) b∧(lisE (allL R.t.l[j].s.l y.l) b).length≤80000:=by
 have h9:=all_len hR hj hy b
 have h8:=see_lis hT b
 have hyl':y.l=R.abs.ss.getD R.t.l[j].tx.snap []:=hyl
 rw[←hyl']at h8
 exact⟨h8 (by show(lisE (allL R.t.l[j].s.l y.l) b).length≤_;omega),by omega⟩

theorem both_list{W:World}(h:Bth w0 p r i w)(hW:Same w W)(hi:i≤6000)(o:Ot)(hk:o.kind=3):Calls Tryz.prog 26 #[.pointer (some ⟨p,0,none⟩),.int .i64 o.num,.string o.ar] W fun e w1=>∃v L er,e=.returned (.tuple #[v,.int .i64 er])∧L.length≤1000000∧Kept (fun k=>k<w.heap.size) W w1 ∧
  ∀W2,Same w1 W2→Calls Tryz.prog 42 #[.pointer (some ⟨r,0,none⟩),.int .i64 o.num,.string o.ar] W2 fun e w2=>∃v',e=.returned (.tuple #[v',.int .i64 er])∧RowE W.heap.size 9 nmV w2 v L∧RowE W2.heap.size 9 nmV w2 v' L∧Bth w0 p r (i+1) w2:=by
 obtain⟨K,N,B,S,F,T,X,Br,P,G,hb,hj,hl,hX,hf⟩:=h
 have hlt:∀k,F k→k<w.heap.size:=fun k f=>(hb.mg.lt f).2
 have hlg:∀k,G k→k<w.heap.size:=fun k g=>(hb.rf.lt g).2
 have hb:=hb.same hW
 have hkk:=hj.kk
 have hbb:=hj.bb
 have hact:ActR S o.n o ⟨#[]⟩ (lsF S o.n o.a).2.1 (lsF S o.n o.a).1 (lsF S o.n o.a).2.2:=.inr (.inl ⟨hk,rfl,rfl⟩)
 refine(glistV hb.mg o.n o.a (by omega) (by omega)).mono ?_
 rintro e w1 ⟨v,rfl,F',m1,m2,m3,m4,m5⟩
 have hG0:∀k,v.ownBlock=some k→¬G k:=fun k e=>(hb.off (m4.ge e)).2
 obtain⟨T',hj'⟩:=hj.act hact
 have hb1:BT w0 p r (K+1) N (B+1000000001) (lsF S o.n o.a).2.2 F' X Br P G w1:=by
  refine⟨m1,hb.rf.kept m3 (fun j g f=>hb.ap j f g),fun j f g=>?_,hb.sm.then m3 (fun j hj f=>by have:=(hb.mg.lt f).1;have:=hb.l1;omega),hb.l1,hb.l2,Nat.le_trans hb.l3 m3.size⟩
  exact hb.ap j ((m2 j (hb.rf.lt g).2).1 f) g
 have hlen:(lsF S o.n o.a).2.1.length≤1000000:=by
  cases hop:S.op o.n with
  | none=>unfold lsF;rw[hop];exact Nat.zero_le _
  | some x0=>
   obtain⟨ow,mv⟩:=x0
   obtain⟨R,hR,rfl,hG⟩:=hb.rf
   obtain⟨j,hj1,hnum,hone,hT,y,hy,hyl⟩:=rl_here hl hop
   unfold lsF
   rw[hop]
   show((if sho o.a.s=true then _ else _:Int×List Nm×Ts)).2.1.length≤_
   by_cases hs:sho o.a.s=true
   ·rw[if_pos hs]
    obtain⟨h8,h9⟩:=seen_is hR (by omega) hj1 hT hy hyl (bxT ow o.a)
    show(seeN mv S.M (bxT ow o.a)).length≤_
    rw[h8]
    omega
   ·rw[if_neg hs];exact Nat.zero_le _
 refine⟨v,_,_,rfl,hlen,m3.mono (fun k _ f=>hlt k f),fun W2 hs=>?_⟩
 have hb1:=hb1.same hs
 have m4:RowE W.heap.size 9 nmV W2 v (lsF S o.n o.a).2.1:=m4.kept hs (fun _ _ f=>f)
 have hfin:∀{X':Nat} {P':Rs14} {w2:World},RfA X' Br W2 r G P' w2→X'≤X+1→Rl (lsF S o.n o.a).2.2 P'→P'.first=P.first→Bth w0 p r (i+1) w2∧RowE W.heap.size 9 nmV w2 v (lsF S o.n o.a).2.1:=fun a hXX hr hfi=>by
  refine⟨(bth_fin hb1 hlg (by omega) (by omega) hj' a (by omega) hr (by rw[hfi];exact hf)).1,?_⟩
  obtain⟨G',_,_,k⟩:=a
  exact m4.kept k (fun k e g=>hG0 k e g)
 obtain⟨R,hR,rfl,hG⟩:=hb1.rf
 cases hop:S.op o.n with
 | none=>
  have hls:lsF S o.n o.a=(140,[],S):=by unfold lsF;rw[hop]
  rw[hls]at hfin ⊢
  refine(rlist_err (ar:=o.ar) (.inl rfl) (ropen_none hR o.n.v (rl_gone hl hop) o.ar ⟨#[]⟩ true)).mono ?_
  rintro e w2 ⟨rfl,hk2⟩
  have h9:=hfin (RmA.rfa hG (RmA.still hR (Nat.le_succ X) hk2)) (Nat.le_refl _) hl rfl
  exact⟨_,rfl,h9.2,RowE.nil,h9.1⟩
 | some x0=>
  obtain⟨ow,mv⟩:=x0
  obtain⟨j,hj1,hnum,hone,hT,y,hy,hyl⟩:=rl_here hl hop
  cases hnm:sho o.a.s with
  | false=>
   have hls:lsF S o.n o.a=(143,[],S):=by unfold lsF;rw[hop];simp only;rw[if_neg (by rw[hnm];decide)]
   rw[hls]at hfin ⊢
   refine(rlist_err (ar:=o.ar) (.inr rfl) (ropen_bad hR o.n.v hj1 hnum hone o.ar ⟨#[]⟩ true (by unfold namR;rw[show sho o.ar=false from hnm];rfl))).mono ?_
   rintro e w2 ⟨rfl,hk2⟩
   have h9:=hfin (RmA.rfa hG (RmA.still hR (Nat.le_succ X) hk2)) (Nat.le_refl _) hl rfl
   exact⟨_,rfl,h9.2,RowE.nil,h9.1⟩
  | true=>
   have hls:lsF S o.n o.a=(0,seeN mv S.M (bxT ow o.a),S.set o.n (ow,lsM mv (bxT ow o.a))):=by unfold lsF;rw[hop];simp only;rw[if_pos hnm]
   rw[hls]at hfin ⊢
   have htn:R.t.l[j].tn=ow:=hT.tn
   obtain⟨h8,h9⟩:=seen_is hR (by omega) hj1 hT hy hyl (bxT ow o.a)
   have hq:=rlist_good hR (by omega) hb1.l3 hj1 (fun j' hj' e=>hone j' hj' (e.trans hnum)) o.a hnm hy (bxT ow o.a) (by rw[htn];rfl)
   rw[hnum]at hq
   refine hq.mono ?_
   rintro e w2 ⟨v',rfl,hrow,b',hb',hA⟩
   have h7:=hfin (RmA.rfa hG hA) (Nat.le_refl _) (rl_put hl hop hj1 hnum rfl (by
    have h6:=hT.listed (bxT ow o.a)
    have e9:({R.t.l[j]with b:=b'}:Ti).tx={R.t.l[j].tx with ls:=R.t.l[j].tx.ls++[bxT ow o.a]}:=by
     unfold Ti.tx
     simp only
     rw[hb']
    rw[e9]
    exact h6)) rfl
   refine⟨_,rfl,h7.2,?_,h7.1⟩
   show RowE _ _ nmV w2 v' (seeN mv S.M (bxT ow o.a))
   rw[h8]
   exact hrow

theorem both_check(h:Bth w0 p r i w)(hi:i≤6000)(n:Nb):Calls Tryz.prog 23 #[.pointer (some ⟨p,0,none⟩),.int .i64 n.v] w fun e w1=>∃(t:Int) (a:Option Addr) (m cap:Nat) (er:Int) (xs:List Wr),e=.returned (.tuple #[.agg #[.int .i64 t,.slice a m cap],.int .i64 er])∧RowC w.heap.size 65 5 wrE w1 (.slice a m cap) xs∧xs.length≤100000∧Same w w1 ∧
  ∀W2,Same w1 W2→Calls Tryz.prog 46 #[.pointer (some ⟨r,0,none⟩),.int .i64 n.v] W2 fun e w2=>∃(a':Option Addr) (m' cap':Nat),e=.returned (.tuple #[.agg #[.int .i64 t,.slice a' m' cap'],.int .i64 er])∧RowC W2.heap.size 65 5 wrE w2 (.slice a' m' cap') xs∧Same W2 w2:=by
 obtain⟨K,N,B,S,F,T,X,Br,P,G,hb,hj,hl,hX,hf⟩:=h
 have hkk:=hj.kk
 have hbb:=hj.bb
 refine(gcheckT hb.mg n (by omega)).mono ?_
 rintro e w1 ⟨t,a,m,cap,er,xs,rfl,hc,hrow,hk⟩
 have hxl:=(hj.xs hc).1
 have hcl:=List.count_le_length (a:=n) (l:=T)
 refine⟨t,a,m,cap,er,xs,rfl,hrow,by omega,hk,fun W2 hs=>?_⟩
 have hb1:=(hb.same hk).same hs
 obtain⟨R,hR,rfl,hG⟩:=hb1.rf
 have hck:Calls Tryz.prog 46 #[.pointer (some ⟨r,0,none⟩),.int .i64 n.v] W2 fun e w'=>RckA W2 R.abs (vkF S.M.V S.M.now) n.v e w':=by
  cases hop:S.op n with
  | none=>exact rcheck_none hR n.v _ (rl_gone hl hop)
  | some x=>
   obtain⟨ow,mv⟩:=x
   exact rck_here hR (by omega) hb1.l3 hl hf hop
 refine hck.mono ?_
 rintro e w2 ⟨hk2,t',a',m',cap',er',xs',rfl,hr,hrow'⟩
 obtain⟨rfl,rfl,rfl,_⟩:=ck_same hl hc hr
 exact⟨a',m',cap',rfl,hrow',hk2⟩

theorem both_owner(h:Bth w0 p r i w)(n:Nb):Calls Tryz.prog 27 #[.pointer (some ⟨p,0,none⟩),.int .i64 n.v] w fun e w1=>∃s er,e=.returned (.tuple #[.string s,.int .i64 er])∧Same w w1 ∧
  ∀W2,Same w1 W2→Calls Tryz.prog 50 #[.pointer (some ⟨r,0,none⟩),.int .i64 n.v] W2 fun e w2=>e=.returned (.tuple #[.string s,.int .i64 er])∧Same W2 w2:=by
 obtain⟨K,N,B,S,F,T,X,Br,P,G,hb,hj,hl,hX,hf⟩:=h
 refine(gownerT hb.mg n).mono ?_
 rintro e w1 ⟨rfl,hk⟩
 cases hop:S.op n with
 | none=>
  refine⟨_,_,rfl,hk,fun W2 hs=>?_⟩
  have hb1:=(hb.same hk).same hs
  obtain⟨R,hR,rfl,hG⟩:=hb1.rf
  refine(rowner_none hR n.v (rl_gone hl hop)).mono ?_
  rintro e w2 ⟨rfl,rfl⟩
  exact⟨rfl,Kept.refl _ _⟩
 | some x=>
  obtain⟨ow,mv⟩:=x
  refine⟨_,_,rfl,hk,fun W2 hs=>?_⟩
  have hb1:=(hb.same hk).same hs
  obtain⟨R,hR,rfl,hG⟩:=hb1.rf
  obtain⟨j,hj1,hnum,hone,hT,y,hy,hyl⟩:=rl_here hl hop
  have htn:R.t.l[j].tn=ow:=hT.tn
  refine(rowner_some hR n.v hj1 hnum hone).mono ?_
  rintro e w2 ⟨rfl,rfl⟩
  exact⟨by rw[htn],Kept.refl _ _⟩

theorem opn_nums{L:List Nb}{P:Rs14}(hl:Rl S P)(hbg:S.bg≤1000000)(hr:L.Pairwise (fun a b=>a.v<b.v))(hm:∀n,n∈L↔S.op n≠none):L.map (·.v)=P.ts.map (·.num):=by
 refine strict_ext (R:=fun a b:Int=>a<b) (fun _=>Int.lt_irrefl _) (fun _ _ _=>Int.lt_trans) (by rw[List.pairwise_map];exact hr) (by rw[List.pairwise_map];exact hl.nums) (fun z=>?_)
 rw[List.mem_map,List.mem_map]
 constructor
 ·rintro⟨n,hn,rfl⟩
  obtain⟨t,ht,e⟩:=hl.op0 n ((hm n).1 hn)
  exact⟨t,ht,e⟩
 ·rintro⟨t,ht,rfl⟩
  have hlo:=hl.low t ht
  have hwf:(Lit.int .i64 t.num).wf=true:=by simp[Lit.wf,IntKind.min,IntKind.max,IntKind.signed,IntKind.bits];omega
  obtain⟨ow,mv,h1,_⟩:=hl.op1 t ht ⟨t.num,hwf⟩ rfl
  exact⟨⟨t.num,hwf⟩,(hm _).2 (by rw[h1];simp),rfl⟩

theorem both_open(h:Bth w0 p r i w)(hi:i≤6000):Calls Tryz.prog 31 #[.pointer (some ⟨p,0,none⟩)] w fun e w1=>∃v xs,e=.returned v∧RowE w.heap.size 3 intV w1 v xs∧xs.length≤10000000∧Same w w1 ∧
  ∀W2,Same w1 W2→Calls Tryz.prog 52 #[.pointer (some ⟨r,0,none⟩)] W2 fun e w2=>∃v',e=.returned v'∧RowE W2.heap.size 3 intV w2 v' xs∧Same W2 w2:=by
 obtain⟨K,N,B,S,F,T,X,Br,P,G,hb,hj,hl,hX,hf⟩:=h
 have hbg:=hj.bg
 refine(gopenT hb.mg).mono ?_
 rintro e w1 ⟨v,L,rfl,hrow,hris,hmem,_,hk⟩
 have he:=opn_nums hl (by omega) hris hmem
 have hlen:(L.map (·.v)).length≤10000000:=by
  obtain⟨R,hR,rfl,hG⟩:=hb.rf
  rw[he,List.length_map]
  show(R.t.l.map Ti.tx).length≤_
  rw[List.length_map]
  have:=hR.big.2.2.1
  omega
 refine⟨v,L.map (·.v),rfl,hrow.recode (by rw[List.map_map];rfl),hlen,hk,fun W2 hs=>?_⟩
 have hb1:=(hb.same hk).same hs
 obtain⟨R,hR,rfl,hG⟩:=hb1.rf
 refine(ropens14 hR).mono ?_
 rintro e w2 ⟨v',rfl,hrow',hk2⟩
 refine⟨v',rfl,?_,hk2⟩
 rw[he]
 show RowE _ _ intV w2 v' ((R.t.l.map Ti.tx).map (·.num))
 rw[List.map_map]
 exact hrow'

theorem cur_small(hj:Jn S K B i T){es:List Et}{t:Int}(h:StE (vkF S.M.V t) es):∀x∈es,x.d.size≤8192:=fun x hx=>by
 have h1:=(h.mem (keE x) x.d).1 hx
 unfold vkF visV at h1
 split at h1
 ·simp only[Option.some.injEq]at h1
  rw[←h1]
  unfold newV
  split
  ·exact Nat.zero_le _
  ·rename_i h0
   have hl:upV (S.M.V (keE x).1 (keE x).2) t-1<(S.M.V (keE x).1 (keE x).2).length:=by have:=upV_le (S.M.V (keE x).1 (keE x).2) t;omega
   rw[List.getD_eq_getElem?_getD,List.getElem?_eq_getElem hl]
   exact hj.sm.vs _ _ _ (List.getElem_mem hl)
 ·cases h1

theorem useE_le(es:List Et)(tn:ByteArray)(h:∀x∈es,x.d.size≤8192):(useE es tn).1≤es.length*8192∧(useE es tn).2≤es.length:=by
 induction es with
 | nil=>exact⟨Nat.zero_le _,Nat.zero_le _⟩
 | cons x r ih=>
  have h1:=ih (fun y hy=>h y (List.mem_cons_of_mem _ hy))
  have h2:=h x List.mem_cons_self
  have e:useE (x::r) tn=((useE [x] tn).1+(useE r tn).1,(useE [x] tn).2+(useE r tn).2):=useE_app [x] r tn
  have e2:useE [x] tn=if x.b.tn=tn then(x.d.size,1) else(0,0):=by
   unfold useE
   simp
  rw[e,e2,List.length_cons]
  split
  ·exact⟨by show x.d.size+_≤_;omega,by show 1+_≤_;omega⟩
  ·exact⟨by show 0+_≤_;omega,by show 0+_≤_;omega⟩

theorem wr14_small{n:Nat}(h:n≤1000000000000):wr14 n=(n:Int):=by
 unfold wr14
 rw[IntKind.wrap_i64]
 omega

theorem state_any(h:Bth w0 p r i w)(hi:i≤6000):∃(S:Ts) (es:List Et) (a:Option Addr) (n c:Nat),StE (vkF S.M.V S.M.now) es∧n≤90000∧(∀x∈es,x.d.size≤8192) ∧
  (∀W,Same w W→RowC 0 150 4 etE W (.slice a n c) es) ∧
  (∀W,Same w W→Calls Tryz.prog 53 #[.pointer (some ⟨r,0,none⟩)] W fun e w2=>e=.returned (.slice a n c)∧Same W w2) ∧
  (∀W,Same w W→Calls Tryz.prog 22 #[.pointer (some ⟨p,0,none⟩)] W fun e w2=>DumA W (visF S.M.V S.M.now) e w2) ∧
  (∀W,Same w W→∀tn:ByteArray,Calls Tryz.prog 32 #[.pointer (some ⟨p,0,none⟩),.string tn] W fun e w2=>e=.returned (.agg #[.int .i64 ((useE es tn).1:Nat),.int .i64 ((useE es tn).2:Nat)])∧Same W w2):=by
 obtain⟨K,N,B,S,F,T,X,Br,P,G,hb,hj,hl,hX,hf⟩:=h
 have hkk:=hj.kk
 obtain⟨R,hR,rfl,hG⟩:=id hb.rf
 obtain⟨m,last,hlast,hm,hle⟩:=last_some hl
 obtain⟨hs,e⟩:=List.getElem?_eq_some_iff.1 hlast
 have hcur:StE (vkF S.M.V S.M.now) last.l:=by rw[hle];exact hl.cur
 have hsm:=cur_small hj hcur
 have hmem:last∈R.s.l:=List.mem_of_getElem? hlast
 have hbig:=hR.big.2.2.2.1 last hmem
 have hri:=hR.ri last hmem
 have hn:last.n=last.l.length:=row_len hri
 refine⟨S,last.l,last.a,last.n,last.c,hcur,by omega,hsm,fun W hk=>(hri.kept hk (fun _ _ f=>f)).base (Nat.zero_le _),fun W hk=>?_,fun W hk=>gdumpT (hb.mg.same hk),fun W hk tn=>?_⟩
 ·refine(rstate14 (hR.same hk) (by omega) m hm).mono ?_
  rintro e2 w2 ⟨rfl,hk2⟩
  refine⟨?_,hk2⟩
  rw[e]
  rfl
 ·refine(guseT (hb.mg.same hk) tn).mono ?_
  rintro e2 w2 ⟨D,hD,rfl,hk2⟩
  refine⟨?_,hk2⟩
  have h9:=use_dm (f:=vkF S.M.V S.M.now) hD hcur tn
  have h8:=useE_le last.l tn hsm
  have h7:(useE last.l tn).1=useB tn D:=by rw[h9]
  have h6:(useE last.l tn).2=useN tn D:=by rw[h9]
  rw[←h7,←h6,wr14_small (by omega),wr14_small (by omega)]

theorem both_now(h:Bth w0 p r i w)(hi:i≤6000):∃z:Int,(∀W,Same w W→Calls Tryz.prog 16 #[.pointer (some ⟨p,0,none⟩)] W fun e w2=>e=.returned (.int .i64 z)∧w2=W) ∧
  ∀W,Same w W→Calls Tryz.prog 56 #[.pointer (some ⟨r,0,none⟩)] W fun e w2=>e=.returned (.int .i64 z)∧Same W w2:=by
 obtain⟨K,N,B,S,F,T,X,Br,P,G,hb,hj,hl,hX,hf⟩:=h
 have hkk:=hj.kk
 obtain⟨R,hR,rfl,hG⟩:=id hb.rf
 refine⟨S.M.now-1,fun W hk=>gnowT (hb.mg.same hk),fun W hk=>?_⟩
 refine(rnow14 (hR.same hk) (by omega) ⟨hl.fi,hf⟩).mono ?_
 rintro e w2 ⟨rfl,hk2⟩
 refine⟨?_,hk2⟩
 have h1:=hl.now
 have h2:R.abs.ss.length=R.s.l.length:=by show(R.s.l.map (·.l)).length=_;rw[List.length_map]
 rw[h2]at h1
 rw[h1]
 rfl

end

end Go.Proofs.YtcfociogljhbiaaGreatDoor

namespace Go.Proofs.YtcfociogljhbiaaGreatDoor
open Go.RowKit Go.Maps Go.Sort Go.Shelf Go.Lib

theorem wr_cells{B:Nat}{w:World}{g n c:Nat}{xs:List Wr}(h:RowC B 65 5 wrE w (.slice (some ⟨g,0,none⟩) n c) xs)(i:Nat)(hi:i<xs.length):w.cell? ⟨g,i*5,none⟩=some (.string xs[i].b.tn)∧w.cell? ⟨g,i*5+1,none⟩=some (.string xs[i].b.ar)∧w.cell? ⟨g,i*5+2,none⟩=some (.string xs[i].n.s)∧w.cell? ⟨g,i*5+3,none⟩=some (.bool xs[i].there)∧w.cell? ⟨g,i*5+4,none⟩=some (.string xs[i].data):=
 ⟨RowC.cell wrE_ok h i 0 hi (by decide),RowC.cell wrE_ok h i 1 hi (by decide),RowC.cell wrE_ok h i 2 hi (by decide),RowC.cell wrE_ok h i 3 hi (by decide),RowC.cell wrE_ok h i 4 hi (by decide)⟩

set_option maxRecDepth 100000 in
set_option maxHeartbeats 1000000 in
theorem rwrites14(w:World)(N N':Nat)(v v':Value)(xs:List Wr)(h:RowC N 65 5 wrE w v xs)(h':RowC N' 65 5 wrE w v' xs)(hl:xs.length≤1000000):Calls Tryz.prog 47 #[v,v'] w fun e w'=>e=.returned (.bool true)∧Same w w':=by
 obtain⟨a,c,hv,hg,_⟩:=h.shape
 obtain⟨a',c',hv',hg',_⟩:=h'.shape
 obtain⟨n,hn⟩:∃n,n=xs.length:=⟨_,rfl⟩
 rw[←hn]at hv hv' hl
 subst hv hv'
 have HR:Hid (∀w',Same w w'→RowC N 65 5 wrE w' (.slice a n c) xs∧RowC N' 65 5 wrE w' (.slice a' n c') xs):=hid (fun w' hk=>⟨h.kept hk (fun _ _ f=>f),h'.kept hk (fun _ _ f=>f)⟩)
 have HG:Hid ((xs≠[]→∃g,a=some ⟨g,0,none⟩)∧(xs≠[]→∃g,a'=some ⟨g,0,none⟩)∧n=xs.length∧n≤1000000):=hid ⟨hg,hg',hn,hl⟩
 have hb1:((n:Int) != (n:Int))=false:=by simp
 clear h h' hg hg' hn hl
 go_enter Tryz.func47,Tryz.ntmps47
 go_wp2_with fail
 go_loopg [5] n (fun q z wr=>∃i:Nat,n-i≤q∧i≤n∧z=.int .i64 (i:Nat)∧Hid (Same w wr))
 case atStart=>exact⟨0,by omega,by omega,rfl,hid (Kept.refl _ _)⟩
 case round=>
  obtain⟨i,hq,hil,rfl,HS⟩:=hrel
  by_cases hlt:i<n
  ·have hli:decide (i<n)=true:=decide_eq_true hlt
   have hli2:(i:Int)<(n:Int):=by omega
   have hlt2:i<xs.length:=by have:=HG.out.2.2.1;omega
   obtain⟨g,hg⟩:=HG.out.1 (fun e=>by rw[e]at hlt2;simp at hlt2)
   obtain⟨g',hg'⟩:=HG.out.2.1 (fun e=>by rw[e]at hlt2;simp at hlt2)
   subst hg hg'
   obtain⟨y,hy⟩:∃y,y=xs[i]:=⟨_,rfl⟩
   obtain⟨k0,k1,k2,k3,k4⟩:=wr_cells (HR.out wr HS.out).1 i hlt2
   obtain⟨j0,j1,j2,j3,j4⟩:=wr_cells (HR.out wr HS.out).2 i hlt2
   rw[←hy]at k0 k1 k2 k3 k4 j0 j1 j2 j3 j4
   have hiw:IntKind.i64.wrap ((i:Int)+1)=((i+1:Nat):Int):=by have:=HG.out.2.2.2;rw[IntKind.wrap_i64];omega
   clear hy
   go_wp2_with fail
   go_region
   all_goals go_wp2_with fail
   all_goals go_roundg (gk-1)
   all_goals first
    | (case measure=>omega)
    | skip
   all_goals exact⟨i+1,by omega,by omega,by go_num,hid HS.out.drew⟩
  ·have hli:decide (i<n)=false:=decide_eq_false hlt
   go_wp2_with fail
   go_ret
   exact⟨rfl,HS.out⟩

end Go.Proofs.YtcfociogljhbiaaGreatDoor

namespace Go.Proofs.YtcfociogljhbiaaGreatDoor
open Go.RowKit Go.Maps Go.Sort Go.Shelf Go.Lib

theorem Blk.c6w{w:World}{g:Nat}{a b c d e f:Value}{t:TypeId}(hb:Blk w g #[a,b,c,d,e,f] t):w.cell? ⟨g,0,none⟩=some a∧w.cell? ⟨g,1,none⟩=some b∧w.cell? ⟨g,2,none⟩=some c∧w.cell? ⟨g,3,none⟩=some d∧w.cell? ⟨g,4,none⟩=some e∧w.cell? ⟨g,5,none⟩=some f:=
 ⟨hb.cell 0,hb.cell 1,hb.cell 2,hb.cell 3,hb.cell 4,hb.cell 5⟩

section
variable {w0 w:World} {p r i:Nat}

set_option maxRecDepth 100000 in
set_option maxHeartbeats 4000000 in
theorem step14_4(h:Bth w0 p r i w)(hi:i≤6000)(hx:Mxl w0)(o:Ot)(_hd:o.dt.size≤4611686018427379712)(hk:o.kind=4):Calls Tryz.prog 12 #[.pointer (some ⟨p,0,none⟩),.pointer (some ⟨r,0,none⟩),.agg (otE o).toArray] w fun e w'=>e=.returned (.bool true)∧Bth w0 p r (i+1) w':=by
 obtain⟨W1,hW1⟩:∃W,W=w.alloc (.cells #[.int .i64 o.kind,.int .i64 o.num,.string o.tn,.string o.ar,.string o.en,.string o.dt] 24):=⟨_,rfl⟩
 obtain⟨xb,hxb⟩:∃b,b=w.heap.size:=⟨_,rfl⟩
 have HK1:Hid (Same w W1):=hid (by rw[hW1];exact(Kept.refl _ w).alloc _)
 have HB:Hid (Blk W1 xb #[.int .i64 4,.int .i64 o.num,.string o.tn,.string o.ar,.string o.en,.string o.dt] 24):=hid (by rw[hW1,hxb,←hk];exact Blk.new w _ _)
 have HX:=hid hxb
 have HP:Hid (∀W,Same W1 W→Calls Tryz.prog 28 #[.pointer (some ⟨p,0,none⟩),.int .i64 o.num,.string o.ar,.string o.en,.string o.dt] W fun e w1=>∃v,e=.returned v∧ShI v∧Kept (fun k=>k<w.heap.size) W w1∧∀w1',Same w1 w1'→Calls Tryz.prog 43 #[.pointer (some ⟨r,0,none⟩),.int .i64 o.num,.string o.ar,.string o.en,.string o.dt] w1' fun e w2=>e=.returned v∧Bts w0 w p r (i+1) w1' w2):=hid (fun W hk1=>both_put h (HK1.out.trans hk1) hi hx o hk)
 obtain⟨c0,c1,c2,c3,c4,c5⟩:=HB.out.c6w
 show Calls Tryz.prog 12 #[.pointer (some ⟨p,0,none⟩),.pointer (some ⟨r,0,none⟩),.agg #[.int .i64 o.kind,.int .i64 o.num,.string o.tn,.string o.ar,.string o.en,.string o.dt]] w _
 rw[hk]
 rw[hk]at hW1
 clear h hi hx _hd
 go_enter Tryz.func12,Tryz.ntmps12
 go_upto_region 1 with fail
 rw[←hW1,←hxb]
 clear hW1 hxb hk
 go_upto_region 15 with fail
 go_region_held3 (fun w'=>w'.cell? ⟨xb,1,none⟩=some (.int .i64 o.num)∧w'.cell? ⟨xb,3,none⟩=some (.string o.ar)∧w'.cell? ⟨xb,4,none⟩=some (.string o.en)∧w'.cell? ⟨xb,5,none⟩=some (.string o.dt)) (first | go_keep | (go_split_ands;exact⟨by assumption,by assumption,by assumption,by assumption⟩))
  (first
   | (go_at_call 28;refine(HP.out _ (by first | exact Kept.refl _ _ | exact(Kept.refl _ _).drew)).mono ?_;rintro e w2 ⟨v2,rfl,⟨z2,rfl⟩,hk2,hn2⟩;have HN2:=hid hn2;have HB2:=hid ((HB.out.kept (show Same W1 _ from by first | exact Kept.refl _ _ | exact(Kept.refl _ _).drew) (fun f=>f)).kept hk2 (fun e=>by have:=HX.out;omega));clear hk2 hn2 c0 c1 c2 c3 c4 c5;obtain⟨c0,c1,c2,c3,c4,c5⟩:=HB2.out.c6w)
   | (go_at_call 43;refine(HN2.out _ (by first | exact Kept.refl _ _ | exact(Kept.refl _ _).drew)).mono ?_;rintro e w3 ⟨rfl,hb3,hk3⟩;have HBO:=hid hb3;have HB3:=hid ((HB2.out.kept (show Same w2 _ from by first | exact Kept.refl _ _ | exact(Kept.refl _ _).drew) (fun f=>f)).kept hk3 (fun e=>by have:=HX.out;omega));clear hb3 hk3 c0 c1 c2 c3 c4 c5;obtain⟨c0,c1,c2,c3,c4,c5⟩:=HB3.out.c6w))
 all_goals
  go_wp2_with fail
  go_ret
  exact⟨by simp,HBO.out⟩

set_option maxRecDepth 100000 in
set_option maxHeartbeats 4000000 in
theorem step14_5(h:Bth w0 p r i w)(hi:i≤6000)(hx:Mxl w0)(o:Ot)(hd:o.dt.size≤4611686018427379712)(hk:o.kind=5):Calls Tryz.prog 12 #[.pointer (some ⟨p,0,none⟩),.pointer (some ⟨r,0,none⟩),.agg (otE o).toArray] w fun e w'=>e=.returned (.bool true)∧Bth w0 p r (i+1) w':=by
 obtain⟨W1,hW1⟩:∃W,W=w.alloc (.cells #[.int .i64 o.kind,.int .i64 o.num,.string o.tn,.string o.ar,.string o.en,.string o.dt] 24):=⟨_,rfl⟩
 obtain⟨xb,hxb⟩:∃b,b=w.heap.size:=⟨_,rfl⟩
 have HK1:Hid (Same w W1):=hid (by rw[hW1];exact(Kept.refl _ w).alloc _)
 have HB:Hid (Blk W1 xb #[.int .i64 5,.int .i64 o.num,.string o.tn,.string o.ar,.string o.en,.string o.dt] 24):=hid (by rw[hW1,hxb,←hk];exact Blk.new w _ _)
 have HX:=hid hxb
 have HP:Hid (∀W,Same W1 W→Calls Tryz.prog 29 #[.pointer (some ⟨p,0,none⟩),.int .i64 o.num,.string o.ar,.string o.en,.string o.dt] W fun e w1=>∃v,e=.returned v∧ShI v∧Kept (fun k=>k<w.heap.size) W w1∧∀w1',Same w1 w1'→Calls Tryz.prog 44 #[.pointer (some ⟨r,0,none⟩),.int .i64 o.num,.string o.ar,.string o.en,.string o.dt] w1' fun e w2=>e=.returned v∧Bts w0 w p r (i+1) w1' w2):=hid (fun W hk1=>both_add h (HK1.out.trans hk1) hi hx o hk hd)
 obtain⟨c0,c1,c2,c3,c4,c5⟩:=HB.out.c6w
 show Calls Tryz.prog 12 #[.pointer (some ⟨p,0,none⟩),.pointer (some ⟨r,0,none⟩),.agg #[.int .i64 o.kind,.int .i64 o.num,.string o.tn,.string o.ar,.string o.en,.string o.dt]] w _
 rw[hk]
 rw[hk]at hW1
 clear h hi hx hd
 go_enter Tryz.func12,Tryz.ntmps12
 go_upto_region 1 with fail
 rw[←hW1,←hxb]
 clear hW1 hxb hk
 go_upto_region 17 with fail
 go_region_held3 (fun w'=>w'.cell? ⟨xb,1,none⟩=some (.int .i64 o.num)∧w'.cell? ⟨xb,3,none⟩=some (.string o.ar)∧w'.cell? ⟨xb,4,none⟩=some (.string o.en)∧w'.cell? ⟨xb,5,none⟩=some (.string o.dt)) (first | go_keep | (go_split_ands;exact⟨by assumption,by assumption,by assumption,by assumption⟩))
  (first
   | (go_at_call 29;refine(HP.out _ (by first | exact Kept.refl _ _ | exact(Kept.refl _ _).drew)).mono ?_;rintro e w2 ⟨v2,rfl,⟨z2,rfl⟩,hk2,hn2⟩;have HN2:=hid hn2;have HB2:=hid ((HB.out.kept (show Same W1 _ from by first | exact Kept.refl _ _ | exact(Kept.refl _ _).drew) (fun f=>f)).kept hk2 (fun e=>by have:=HX.out;omega));clear hk2 hn2 c0 c1 c2 c3 c4 c5;obtain⟨c0,c1,c2,c3,c4,c5⟩:=HB2.out.c6w)
   | (go_at_call 44;refine(HN2.out _ (by first | exact Kept.refl _ _ | exact(Kept.refl _ _).drew)).mono ?_;rintro e w3 ⟨rfl,hb3,hk3⟩;have HBO:=hid hb3;have HB3:=hid ((HB2.out.kept (show Same w2 _ from by first | exact Kept.refl _ _ | exact(Kept.refl _ _).drew) (fun f=>f)).kept hk3 (fun e=>by have:=HX.out;omega));clear hb3 hk3 c0 c1 c2 c3 c4 c5;obtain⟨c0,c1,c2,c3,c4,c5⟩:=HB3.out.c6w))
 all_goals
  go_wp2_with fail
  go_ret
  exact⟨by simp,HBO.out⟩

set_option maxRecDepth 100000 in
set_option maxHeartbeats 4000000 in
theorem step14_6(h:Bth w0 p r i w)(hi:i≤6000)(hx:Mxl w0)(o:Ot)(_hd:o.dt.size≤4611686018427379712)(hk:o.kind=6):Calls Tryz.prog 12 #[.pointer (some ⟨p,0,none⟩),.pointer (some ⟨r,0,none⟩),.agg (otE o).toArray] w fun e w'=>e=.returned (.bool true)∧Bth w0 p r (i+1) w':=by
 obtain⟨W1,hW1⟩:∃W,W=w.alloc (.cells #[.int .i64 o.kind,.int .i64 o.num,.string o.tn,.string o.ar,.string o.en,.string o.dt] 24):=⟨_,rfl⟩
 obtain⟨xb,hxb⟩:∃b,b=w.heap.size:=⟨_,rfl⟩
 have HK1:Hid (Same w W1):=hid (by rw[hW1];exact(Kept.refl _ w).alloc _)
 have HB:Hid (Blk W1 xb #[.int .i64 6,.int .i64 o.num,.string o.tn,.string o.ar,.string o.en,.string o.dt] 24):=hid (by rw[hW1,hxb,←hk];exact Blk.new w _ _)
 have HX:=hid hxb
 have HP:Hid (∀W,Same W1 W→Calls Tryz.prog 30 #[.pointer (some ⟨p,0,none⟩),.int .i64 o.num,.string o.ar,.string o.en] W fun e w1=>∃v,e=.returned v∧ShI v∧Kept (fun k=>k<w.heap.size) W w1∧∀w1',Same w1 w1'→Calls Tryz.prog 45 #[.pointer (some ⟨r,0,none⟩),.int .i64 o.num,.string o.ar,.string o.en] w1' fun e w2=>e=.returned v∧Bts w0 w p r (i+1) w1' w2):=hid (fun W hk1=>both_del h (HK1.out.trans hk1) hi hx o hk)
 obtain⟨c0,c1,c2,c3,c4,c5⟩:=HB.out.c6w
 show Calls Tryz.prog 12 #[.pointer (some ⟨p,0,none⟩),.pointer (some ⟨r,0,none⟩),.agg #[.int .i64 o.kind,.int .i64 o.num,.string o.tn,.string o.ar,.string o.en,.string o.dt]] w _
 rw[hk]
 rw[hk]at hW1
 clear h hi hx _hd
 go_enter Tryz.func12,Tryz.ntmps12
 go_upto_region 1 with fail
 rw[←hW1,←hxb]
 clear hW1 hxb hk
 go_upto_region 19 with fail
 go_region_held3 (fun w'=>w'.cell? ⟨xb,1,none⟩=some (.int .i64 o.num)∧w'.cell? ⟨xb,3,none⟩=some (.string o.ar)∧w'.cell? ⟨xb,4,none⟩=some (.string o.en)) (first | go_keep | (go_split_ands;exact⟨by assumption,by assumption,by assumption⟩))
  (first
   | (go_at_call 30;refine(HP.out _ (by first | exact Kept.refl _ _ | exact(Kept.refl _ _).drew)).mono ?_;rintro e w2 ⟨v2,rfl,⟨z2,rfl⟩,hk2,hn2⟩;have HN2:=hid hn2;have HB2:=hid ((HB.out.kept (show Same W1 _ from by first | exact Kept.refl _ _ | exact(Kept.refl _ _).drew) (fun f=>f)).kept hk2 (fun e=>by have:=HX.out;omega));clear hk2 hn2 c0 c1 c2 c3 c4 c5;obtain⟨c0,c1,c2,c3,c4,c5⟩:=HB2.out.c6w)
   | (go_at_call 45;refine(HN2.out _ (by first | exact Kept.refl _ _ | exact(Kept.refl _ _).drew)).mono ?_;rintro e w3 ⟨rfl,hb3,hk3⟩;have HBO:=hid hb3;have HB3:=hid ((HB2.out.kept (show Same w2 _ from by first | exact Kept.refl _ _ | exact(Kept.refl _ _).drew) (fun f=>f)).kept hk3 (fun e=>by have:=HX.out;omega));clear hb3 hk3 c0 c1 c2 c3 c4 c5;obtain⟨c0,c1,c2,c3,c4,c5⟩:=HB3.out.c6w))
 all_goals
  go_wp2_with fail
  go_ret
  exact⟨by simp,HBO.out⟩

set_option maxRecDepth 100000 in
set_option maxHeartbeats 4000000 in
theorem step14_9(h:Bth w0 p r i w)(hi:i≤6000)(_hx:Mxl w0)(o:Ot)(_hd:o.dt.size≤4611686018427379712)(hk:o.kind=9):Calls Tryz.prog 12 #[.pointer (some ⟨p,0,none⟩),.pointer (some ⟨r,0,none⟩),.agg (otE o).toArray] w fun e w'=>e=.returned (.bool true)∧Bth w0 p r (i+1) w':=by
 obtain⟨W1,hW1⟩:∃W,W=w.alloc (.cells #[.int .i64 o.kind,.int .i64 o.num,.string o.tn,.string o.ar,.string o.en,.string o.dt] 24):=⟨_,rfl⟩
 obtain⟨xb,hxb⟩:∃b,b=w.heap.size:=⟨_,rfl⟩
 have HK1:Hid (Same w W1):=hid (by rw[hW1];exact(Kept.refl _ w).alloc _)
 have HB:Hid (Blk W1 xb #[.int .i64 9,.int .i64 o.num,.string o.tn,.string o.ar,.string o.en,.string o.dt] 24):=hid (by rw[hW1,hxb,←hk];exact Blk.new w _ _)
 have HX:=hid hxb
 have HP:Hid (∀W,Same W1 W→Calls Tryz.prog 19 #[.pointer (some ⟨p,0,none⟩),.int .i64 o.num] W fun e w1=>∃v,e=.returned v∧ShI v∧Kept (fun k=>k<w.heap.size) W w1∧∀w1',Same w1 w1'→Calls Tryz.prog 49 #[.pointer (some ⟨r,0,none⟩),.int .i64 o.num] w1' fun e w2=>e=.returned v∧Bts w0 w p r (i+1) w1' w2):=hid (fun W hk1=>both_abort h (HK1.out.trans hk1) hi o.n)
 obtain⟨c0,c1,c2,c3,c4,c5⟩:=HB.out.c6w
 show Calls Tryz.prog 12 #[.pointer (some ⟨p,0,none⟩),.pointer (some ⟨r,0,none⟩),.agg #[.int .i64 o.kind,.int .i64 o.num,.string o.tn,.string o.ar,.string o.en,.string o.dt]] w _
 rw[hk]
 rw[hk]at hW1
 clear h hi _hx _hd
 go_enter Tryz.func12,Tryz.ntmps12
 go_upto_region 1 with fail
 rw[←hW1,←hxb]
 clear hW1 hxb hk
 go_upto_region 34 with fail
 go_region_held3 (fun w'=>w'.cell? ⟨xb,1,none⟩=some (.int .i64 o.num)) (first | go_keep | assumption)
  (first
   | (go_at_call 19;refine(HP.out _ (by first | exact Kept.refl _ _ | exact(Kept.refl _ _).drew)).mono ?_;rintro e w2 ⟨v2,rfl,⟨z2,rfl⟩,hk2,hn2⟩;have HN2:=hid hn2;have HB2:=hid ((HB.out.kept (show Same W1 _ from by first | exact Kept.refl _ _ | exact(Kept.refl _ _).drew) (fun f=>f)).kept hk2 (fun e=>by have:=HX.out;omega));clear hk2 hn2 c0 c1 c2 c3 c4 c5;obtain⟨c0,c1,c2,c3,c4,c5⟩:=HB2.out.c6w)
   | (go_at_call 49;refine(HN2.out _ (by first | exact Kept.refl _ _ | exact(Kept.refl _ _).drew)).mono ?_;rintro e w3 ⟨rfl,hb3,hk3⟩;have HBO:=hid hb3;have HB3:=hid ((HB2.out.kept (show Same w2 _ from by first | exact Kept.refl _ _ | exact(Kept.refl _ _).drew) (fun f=>f)).kept hk3 (fun e=>by have:=HX.out;omega));clear hb3 hk3 c0 c1 c2 c3 c4 c5;obtain⟨c0,c1,c2,c3,c4,c5⟩:=HB3.out.c6w))
 all_goals
  go_wp2_with fail
  go_ret
  exact⟨by simp,HBO.out⟩

set_option maxRecDepth 100000 in
set_option maxHeartbeats 4000000 in
theorem step14_1(h:Bth w0 p r i w)(hi:i≤6000)(_hx:Mxl w0)(o:Ot)(_hd:o.dt.size≤4611686018427379712)(hk:o.kind=1):Calls Tryz.prog 12 #[.pointer (some ⟨p,0,none⟩),.pointer (some ⟨r,0,none⟩),.agg (otE o).toArray] w fun e w'=>e=.returned (.bool true)∧Bth w0 p r (i+1) w':=by
 obtain⟨W1,hW1⟩:∃W,W=w.alloc (.cells #[.int .i64 o.kind,.int .i64 o.num,.string o.tn,.string o.ar,.string o.en,.string o.dt] 24):=⟨_,rfl⟩
 obtain⟨xb,hxb⟩:∃b,b=w.heap.size:=⟨_,rfl⟩
 have HK1:Hid (Same w W1):=hid (by rw[hW1];exact(Kept.refl _ w).alloc _)
 have HB:Hid (Blk W1 xb #[.int .i64 1,.int .i64 o.num,.string o.tn,.string o.ar,.string o.en,.string o.dt] 24):=hid (by rw[hW1,hxb,←hk];exact Blk.new w _ _)
 have HX:=hid hxb
 have HP:Hid (∀W,Same W1 W→Calls Tryz.prog 15 #[.pointer (some ⟨p,0,none⟩),.string o.tn] W fun e w1=>∃v,e=.returned v∧ShT v∧Kept (fun k=>k<w.heap.size) W w1∧∀w1',Same w1 w1'→Calls Tryz.prog 40 #[.pointer (some ⟨r,0,none⟩),.string o.tn] w1' fun e w2=>e=.returned v∧Bts w0 w p r (i+1) w1' w2):=hid (fun W hk1=>both_begin h (HK1.out.trans hk1) hi o.t)
 obtain⟨c0,c1,c2,c3,c4,c5⟩:=HB.out.c6w
 show Calls Tryz.prog 12 #[.pointer (some ⟨p,0,none⟩),.pointer (some ⟨r,0,none⟩),.agg #[.int .i64 o.kind,.int .i64 o.num,.string o.tn,.string o.ar,.string o.en,.string o.dt]] w _
 rw[hk]
 rw[hk]at hW1
 clear h hi _hx _hd
 go_enter Tryz.func12,Tryz.ntmps12
 go_upto_region 1 with fail
 rw[←hW1,←hxb]
 clear hW1 hxb hk
 go_wp2_with fail
 refine(HP.out _ (Kept.refl _ _)).mono ?_
 rintro e w2 ⟨v2,rfl,⟨z1,z2,rfl⟩,hk2,hn2⟩
 have HB2:=hid (HB.out.kept hk2 (fun e=>by have:=HX.out;omega))
 have HN2:=hid (hn2 w2 (Kept.refl _ _))
 clear c0 c1 c2 c3 c4 c5 hk2 hn2
 obtain⟨c0,c1,c2,c3,c4,c5⟩:=HB2.out.c6w
 go_wp2_with fail
 refine HN2.out.mono ?_
 rintro e w4 ⟨rfl,hb4,_⟩
 have HBO:=hid hb4
 clear c0 c1 c2 c3 c4 c5 hb4
 go_wp2_with fail
 go_ret
 exact⟨by simp,HBO.out⟩

set_option maxRecDepth 100000 in
set_option maxHeartbeats 4000000 in
theorem step14_2(h:Bth w0 p r i w)(hi:i≤6000)(hx:Mxl w0)(o:Ot)(_hd:o.dt.size≤4611686018427379712)(hk:o.kind=2):Calls Tryz.prog 12 #[.pointer (some ⟨p,0,none⟩),.pointer (some ⟨r,0,none⟩),.agg (otE o).toArray] w fun e w'=>e=.returned (.bool true)∧Bth w0 p r (i+1) w':=by
 obtain⟨W1,hW1⟩:∃W,W=w.alloc (.cells #[.int .i64 o.kind,.int .i64 o.num,.string o.tn,.string o.ar,.string o.en,.string o.dt] 24):=⟨_,rfl⟩
 obtain⟨xb,hxb⟩:∃b,b=w.heap.size:=⟨_,rfl⟩
 have HK1:Hid (Same w W1):=hid (by rw[hW1];exact(Kept.refl _ w).alloc _)
 have HB:Hid (Blk W1 xb #[.int .i64 2,.int .i64 o.num,.string o.tn,.string o.ar,.string o.en,.string o.dt] 24):=hid (by rw[hW1,hxb,←hk];exact Blk.new w _ _)
 have HX:=hid hxb
 have HP:Hid (∀W,Same W1 W→Calls Tryz.prog 24 #[.pointer (some ⟨p,0,none⟩),.int .i64 o.num,.string o.ar,.string o.en] W fun e w1=>∃v,e=.returned v∧ShS v∧Kept (fun k=>k<w.heap.size) W w1∧∀w1',Same w1 w1'→Calls Tryz.prog 41 #[.pointer (some ⟨r,0,none⟩),.int .i64 o.num,.string o.ar,.string o.en] w1' fun e w2=>e=.returned v∧Bts w0 w p r (i+1) w1' w2):=hid (fun W hk1=>both_read h (HK1.out.trans hk1) hi hx o hk)
 obtain⟨c0,c1,c2,c3,c4,c5⟩:=HB.out.c6w
 show Calls Tryz.prog 12 #[.pointer (some ⟨p,0,none⟩),.pointer (some ⟨r,0,none⟩),.agg #[.int .i64 o.kind,.int .i64 o.num,.string o.tn,.string o.ar,.string o.en,.string o.dt]] w _
 rw[hk]
 rw[hk]at hW1
 clear h hi hx _hd
 go_enter Tryz.func12,Tryz.ntmps12
 go_upto_region 1 with fail
 rw[←hW1,←hxb]
 clear hW1 hxb hk
 go_wp2_with fail
 refine(HP.out _ (Kept.refl _ _)).mono ?_
 rintro e w2 ⟨v2,rfl,⟨s1,z2,rfl⟩,hk2,hn2⟩
 have HB2:=hid (HB.out.kept hk2 (fun e=>by have:=HX.out;omega))
 have HN2:=hid (hn2 w2 (Kept.refl _ _))
 clear c0 c1 c2 c3 c4 c5 hk2 hn2
 obtain⟨c0,c1,c2,c3,c4,c5⟩:=HB2.out.c6w
 go_wp2_with fail
 refine HN2.out.mono ?_
 rintro e w4 ⟨rfl,hb4,_⟩
 have HBO:=hid hb4
 clear c0 c1 c2 c3 c4 c5 hb4
 go_wp2_with fail
 go_ret
 exact⟨by simp,HBO.out⟩

set_option maxRecDepth 100000 in
set_option maxHeartbeats 4000000 in
theorem step14_8(h:Bth w0 p r i w)(hi:i≤6000)(_hx:Mxl w0)(o:Ot)(_hd:o.dt.size≤4611686018427379712)(hk:o.kind=8):Calls Tryz.prog 12 #[.pointer (some ⟨p,0,none⟩),.pointer (some ⟨r,0,none⟩),.agg (otE o).toArray] w fun e w'=>e=.returned (.bool true)∧Bth w0 p r (i+1) w':=by
 obtain⟨W1,hW1⟩:∃W,W=w.alloc (.cells #[.int .i64 o.kind,.int .i64 o.num,.string o.tn,.string o.ar,.string o.en,.string o.dt] 24):=⟨_,rfl⟩
 obtain⟨xb,hxb⟩:∃b,b=w.heap.size:=⟨_,rfl⟩
 have HK1:Hid (Same w W1):=hid (by rw[hW1];exact(Kept.refl _ w).alloc _)
 have HB:Hid (Blk W1 xb #[.int .i64 8,.int .i64 o.num,.string o.tn,.string o.ar,.string o.en,.string o.dt] 24):=hid (by rw[hW1,hxb,←hk];exact Blk.new w _ _)
 have HX:=hid hxb
 have HP:Hid (∀W,Same W1 W→Calls Tryz.prog 18 #[.pointer (some ⟨p,0,none⟩),.int .i64 o.num] W fun e w1=>∃v,e=.returned v∧ShT v∧Kept (fun k=>k<w.heap.size) W w1∧∀w1',Same w1 w1'→Calls Tryz.prog 48 #[.pointer (some ⟨r,0,none⟩),.int .i64 o.num] w1' fun e w2=>e=.returned v∧Bts w0 w p r (i+1) w1' w2):=hid (fun W hk1=>both_commit h (HK1.out.trans hk1) hi o.n)
 obtain⟨c0,c1,c2,c3,c4,c5⟩:=HB.out.c6w
 show Calls Tryz.prog 12 #[.pointer (some ⟨p,0,none⟩),.pointer (some ⟨r,0,none⟩),.agg #[.int .i64 o.kind,.int .i64 o.num,.string o.tn,.string o.ar,.string o.en,.string o.dt]] w _
 rw[hk]
 rw[hk]at hW1
 clear h hi _hx _hd
 go_enter Tryz.func12,Tryz.ntmps12
 go_upto_region 1 with fail
 rw[←hW1,←hxb]
 clear hW1 hxb hk
 go_wp2_with fail
 refine(HP.out _ (Kept.refl _ _)).mono ?_
 rintro e w2 ⟨v2,rfl,⟨z1,z2,rfl⟩,hk2,hn2⟩
 have HB2:=hid (HB.out.kept hk2 (fun e=>by have:=HX.out;omega))
 have HN2:=hid (hn2 w2 (Kept.refl _ _))
 clear c0 c1 c2 c3 c4 c5 hk2 hn2
 obtain⟨c0,c1,c2,c3,c4,c5⟩:=HB2.out.c6w
 go_wp2_with fail
 refine HN2.out.mono ?_
 rintro e w4 ⟨rfl,hb4,_⟩
 have HBO:=hid hb4
 clear c0 c1 c2 c3 c4 c5 hb4
 go_wp2_with fail
 go_ret
 exact⟨by simp,HBO.out⟩

end

end Go.Proofs.YtcfociogljhbiaaGreatDoor

namespace Go.Proofs.YtcfociogljhbiaaGreatDoor
open Go.RowKit

set_option maxHeartbeats 1000000 in
theorem kints_any(va vb:Value)(I J:Nat→Prop)(xs ys:List Int)(w:World)(ha:SrcE intV w I va xs)(hb:SrcE intV w J vb ys)(hx:xs.length≤10000000)(hy:ys.length≤10000000):
  Calls Tryz.prog 51 #[va,vb] w fun e w'=>e=.returned (.bool (decide (xs=ys)))∧Same w w':=by
 obtain⟨ao,ca,rfl,hxa,hsa⟩:=id ha
 obtain⟨bo,cb,rfl,hxb,hsb⟩:=id hb
 clear hxa hxb hsa hsb
 have HA:Hid (SrcE intV w I (.slice ao xs.length ca) xs):=ha
 have HB:Hid (SrcE intV w J (.slice bo ys.length cb) ys):=hb
 clear ha hb
 by_cases hl:xs.length=ys.length
 ·have HL:Hid (xs.length=ys.length):=hl
  have hd:((xs.length:Int) != (ys.length:Int))=false:=by simp[hl]
  clear hl
  go_enter Tryz.func51,Tryz.ntmps51
  go_wp2
  clear hd
  go_loopg [5] xs.length (fun k i wr=>∃j:Nat,j≤xs.length∧xs.length-j≤k∧i=.int .i64 (j:Nat)∧Hid (Same w wr)∧Hid (xs.take j=ys.take j))
  case atStart=>exact⟨0,by omega,by omega,rfl,Kept.refl _ _,hid (by simp)⟩
  case round=>
   obtain⟨j,hj,hjk,rfl,HK,HT⟩:=hrel
   by_cases hlt:j<xs.length
   ·have hlt2:j<ys.length:=by have:=HL.out;omega
    obtain⟨a,oa,ca',ea,_,_,hc1⟩:=(HA.out.same HK.out).get j hlt
    obtain⟨b,ob,cb',eb,_,_,hc2⟩:=(HB.out.same HK.out).get j hlt2
    simp only[Value.slice.injEq]at ea eb
    obtain⟨rfl,hxe,rfl⟩:=ea
    obtain⟨rfl,hxf,rfl⟩:=eb
    clear hxe hxf
    obtain⟨x,hx1⟩:∃x,x=xs[j]:=⟨_,rfl⟩
    obtain⟨y,hy1⟩:∃y,y=ys[j]:=⟨_,rfl⟩
    rw[←hx1]at hc1
    rw[←hy1]at hc2
    unfold intV at hc1 hc2
    have HX:Hid (x=xs[j]):=hx1
    have HY:Hid (y=ys[j]):=hy1
    clear hx1 hy1
    by_cases he:x=y
    ·have hd:(x != y)=false:=by simp[he]
     have HE:Hid (x=y):=he
     clear he
     go_wp2
     go_quiet (fail)
     go_wp2
     go_roundg (gk-1)
     case measure=>omega
     case rel=>exact⟨j+1,by omega,by omega,by go_num,hid (HK.out.drewN _),hid (by rw[List.take_succ_eq_append_getElem hlt,List.take_succ_eq_append_getElem hlt2,HT.out,←HX.out,←HY.out,HE.out])⟩
    ·have hd:(x != y)=true:=by simp[he]
     have HE:Hid (¬x=y):=he
     clear he
     go_wp2
     go_quiet (fail)
     go_wp2
     go_ret
     refine⟨?_,HK.out.drewN _⟩
     have hne:¬xs=ys:=by
      intro e
      subst e
      exact HE.out (HX.out.trans HY.out.symm)
     simp[hne]
   ·have hjl:j=xs.length:=by omega
    subst hjl
    go_wp2
    go_ret
    refine⟨?_,HK.out⟩
    have h1:=HT.out
    rw[List.take_of_length_le (Nat.le_refl _),List.take_of_length_le (by have:=HL.out;omega)]at h1
    simp[h1]
 ·have hd:((xs.length:Int) != (ys.length:Int))=true:=by simp;omega
  have HNE:Hid (¬xs=ys):=hid (fun e=>hl (by rw[e]))
  clear hl
  go_enter Tryz.func51,Tryz.ntmps51
  go_wp2
  go_ret
  exact⟨by simp[HNE.out],Kept.refl _ _⟩

end Go.Proofs.YtcfociogljhbiaaGreatDoor

namespace Go.Proofs.YtcfociogljhbiaaGreatDoor
open Go.RowKit Go.Maps Go.Sort Go.Shelf Go.Lib

section
variable {w0 w:World} {p r i:Nat}

set_option maxRecDepth 100000 in
set_option maxHeartbeats 4000000 in
theorem step14_3(h:Bth w0 p r i w)(hi:i≤6000)(_hx:Mxl w0)(o:Ot)(_hd:o.dt.size≤4611686018427379712)(hk:o.kind=3):Calls Tryz.prog 12 #[.pointer (some ⟨p,0,none⟩),.pointer (some ⟨r,0,none⟩),.agg (otE o).toArray] w fun e w'=>e=.returned (.bool true)∧Bth w0 p r (i+1) w':=by
 obtain⟨W1,hW1⟩:∃W,W=w.alloc (.cells #[.int .i64 o.kind,.int .i64 o.num,.string o.tn,.string o.ar,.string o.en,.string o.dt] 24):=⟨_,rfl⟩
 obtain⟨xb,hxb⟩:∃b,b=w.heap.size:=⟨_,rfl⟩
 have HK1:Hid (Same w W1):=hid (by rw[hW1];exact(Kept.refl _ w).alloc _)
 have HB:Hid (Blk W1 xb #[.int .i64 3,.int .i64 o.num,.string o.tn,.string o.ar,.string o.en,.string o.dt] 24):=hid (by rw[hW1,hxb,←hk];exact Blk.new w _ _)
 have HX:=hid hxb
 have HP:Hid (∀W,Same W1 W→Calls Tryz.prog 26 #[.pointer (some ⟨p,0,none⟩),.int .i64 o.num,.string o.ar] W fun e w1=>∃v L er,e=.returned (.tuple #[v,.int .i64 er])∧L.length≤1000000∧Kept (fun k=>k<w.heap.size) W w1∧∀W2,Same w1 W2→Calls Tryz.prog 42 #[.pointer (some ⟨r,0,none⟩),.int .i64 o.num,.string o.ar] W2 fun e w2=>∃v',e=.returned (.tuple #[v',.int .i64 er])∧RowE W.heap.size 9 nmV w2 v L∧RowE W2.heap.size 9 nmV w2 v' L∧Bth w0 p r (i+1) w2):=hid (fun W hk1=>both_list h (HK1.out.trans hk1) hi o hk)
 obtain⟨c0,c1,c2,c3,c4,c5⟩:=HB.out.c6w
 show Calls Tryz.prog 12 #[.pointer (some ⟨p,0,none⟩),.pointer (some ⟨r,0,none⟩),.agg #[.int .i64 o.kind,.int .i64 o.num,.string o.tn,.string o.ar,.string o.en,.string o.dt]] w _
 rw[hk]
 rw[hk]at hW1
 clear h hi _hx _hd
 go_enter Tryz.func12,Tryz.ntmps12
 go_upto_region 1 with fail
 rw[←hW1,←hxb]
 clear hW1 hxb hk
 go_wp2_with fail
 refine(HP.out _ (Kept.refl _ _)).mono ?_
 rintro e w2 ⟨v,L,er,rfl,hll,hk2,hn2⟩
 have HB2:=hid (HB.out.kept hk2 (fun e=>by have:=HX.out;omega))
 have HN2:=hid (hn2 w2 (Kept.refl _ _))
 have HLL:=hid hll
 clear c0 c1 c2 c3 c4 c5 hk2 hn2 hll
 obtain⟨c0,c1,c2,c3,c4,c5⟩:=HB2.out.c6w
 go_wp2_with fail
 refine HN2.out.mono ?_
 rintro e w4 ⟨v',rfl,hr1,hr2,hb4⟩
 have HBO:=hid hb4
 have HT:=hid (texts_true w4 _ _ v v' L hr1 hr2 HLL.out)
 clear c0 c1 c2 c3 c4 c5 hb4 hr1 hr2
 go_wp2_with fail
 refine HT.out.mono ?_
 rintro e w5 ⟨rfl,hk5⟩
 have HBF:=hid (HBO.out.same hk5)
 clear hk5
 go_wp2_with fail
 go_ret
 exact⟨by simp,HBF.out⟩

set_option maxRecDepth 100000 in
set_option maxHeartbeats 4000000 in
theorem step14_10(h:Bth w0 p r i w)(hi:i≤6000)(_hx:Mxl w0)(o:Ot)(_hd:o.dt.size≤4611686018427379712)(hk:o.kind=10):Calls Tryz.prog 12 #[.pointer (some ⟨p,0,none⟩),.pointer (some ⟨r,0,none⟩),.agg (otE o).toArray] w fun e w'=>e=.returned (.bool true)∧Bth w0 p r (i+1) w':=by
 obtain⟨W1,hW1⟩:∃W,W=w.alloc (.cells #[.int .i64 o.kind,.int .i64 o.num,.string o.tn,.string o.ar,.string o.en,.string o.dt] 24):=⟨_,rfl⟩
 obtain⟨xb,hxb⟩:∃b,b=w.heap.size:=⟨_,rfl⟩
 have HK1:Hid (Same w W1):=hid (by rw[hW1];exact(Kept.refl _ w).alloc _)
 have HB:Hid (Blk W1 xb #[.int .i64 10,.int .i64 o.num,.string o.tn,.string o.ar,.string o.en,.string o.dt] 24):=hid (by rw[hW1,hxb,←hk];exact Blk.new w _ _)
 have HX:=hid hxb
 have HH:Hid (Bth w0 p r i w∧i≤6000):=hid ⟨h,hi⟩
 have HO:Hid (∀W,Same W1 W→Calls Tryz.prog 27 #[.pointer (some ⟨p,0,none⟩),.int .i64 o.num] W fun e w1=>∃s er,e=.returned (.tuple #[.string s,.int .i64 er])∧Same W w1∧∀W2,Same w1 W2→Calls Tryz.prog 50 #[.pointer (some ⟨r,0,none⟩),.int .i64 o.num] W2 fun e w2=>e=.returned (.tuple #[.string s,.int .i64 er])∧Same W2 w2):=hid (fun W hk1=>both_owner (h.same (HK1.out.trans hk1)) o.n)
 obtain⟨c0,c1,c2,c3,c4,c5⟩:=HB.out.c6w
 show Calls Tryz.prog 12 #[.pointer (some ⟨p,0,none⟩),.pointer (some ⟨r,0,none⟩),.agg #[.int .i64 o.kind,.int .i64 o.num,.string o.tn,.string o.ar,.string o.en,.string o.dt]] w _
 rw[hk]
 rw[hk]at hW1
 clear h hi _hx _hd
 go_enter Tryz.func12,Tryz.ntmps12
 go_upto_region 1 with fail
 rw[←hW1,←hxb]
 clear hW1 hxb hk
 go_wp2_with fail
 refine(HO.out _ (Kept.refl _ _)).mono ?_
 rintro e w2 ⟨s,er,rfl,hk2,hn2⟩
 have HB2:=hid (HB.out.kept hk2 (fun f=>f))
 have HN2:=hid (hn2 w2 (Kept.refl _ _))
 have HK2:=hid (HK1.out.trans hk2)
 clear c0 c1 c2 c3 c4 c5 hk2 hn2
 obtain⟨c0,c1,c2,c3,c4,c5⟩:=HB2.out.c6w
 go_wp2_with fail
 refine HN2.out.mono ?_
 rintro e w3 ⟨rfl,hk3⟩
 have HK3:=hid (HK2.out.trans hk3)
 have HB3:=hid (HB2.out.kept hk3 (fun f=>f))
 clear c0 c1 c2 c3 c4 c5 hk3
 obtain⟨c0,c1,c2,c3,c4,c5⟩:=HB3.out.c6w
 go_wp2_with fail
 refine(both_open (HH.out.1.same HK3.out) HH.out.2).mono ?_
 rintro e w4 ⟨v,xs,rfl,hr4,hl4,hk4,hn4⟩
 have HN4:=hid (hn4 w4 (Kept.refl _ _))
 have HR4:=hid hr4
 have HL4:=hid hl4
 have HK4:=hid (HK3.out.trans hk4)
 clear c0 c1 c2 c3 c4 c5 hr4 hl4 hk4 hn4
 go_wp2_with fail
 refine HN4.out.mono ?_
 rintro e w5 ⟨v',rfl,hr5,hk5⟩
 have HI:=hid (kints_any v v' _ _ xs xs w5 (SrcE.ofRow (HR4.out.kept hk5 (fun _ _ f=>f))) (SrcE.ofRow hr5) HL4.out HL4.out)
 have HK5:=hid (HK4.out.trans hk5)
 clear hr5 hk5
 go_wp2_with fail
 refine HI.out.mono ?_
 rintro e w6 ⟨rfl,hk6⟩
 have HBF:=hid (HH.out.1.next (HK5.out.trans hk6))
 clear hk6
 go_wp2_with fail
 go_ret
 exact⟨by simp,HBF.out⟩

set_option maxRecDepth 100000 in
set_option maxHeartbeats 4000000 in
theorem step14_11(h:Bth w0 p r i w)(hi:i≤6000)(_hx:Mxl w0)(o:Ot)(_hd:o.dt.size≤4611686018427379712)(hk:o.kind=11):Calls Tryz.prog 12 #[.pointer (some ⟨p,0,none⟩),.pointer (some ⟨r,0,none⟩),.agg (otE o).toArray] w fun e w'=>e=.returned (.bool true)∧Bth w0 p r (i+1) w':=by
 obtain⟨W1,hW1⟩:∃W,W=w.alloc (.cells #[.int .i64 o.kind,.int .i64 o.num,.string o.tn,.string o.ar,.string o.en,.string o.dt] 24):=⟨_,rfl⟩
 obtain⟨xb,hxb⟩:∃b,b=w.heap.size:=⟨_,rfl⟩
 have HK1:Hid (Same w W1):=hid (by rw[hW1];exact(Kept.refl _ w).alloc _)
 have HB:Hid (Blk W1 xb #[.int .i64 11,.int .i64 o.num,.string o.tn,.string o.ar,.string o.en,.string o.dt] 24):=hid (by rw[hW1,hxb,←hk];exact Blk.new w _ _)
 have HX:=hid hxb
 have HH:Hid (Bth w0 p r i w):=hid h
 obtain⟨S,es,a,n,cc,hSt,hn9,hsm,hrow,hst,hdmp,huse⟩:=state_any h hi
 obtain⟨u1,hu1⟩:∃z:Int,z=((useE es o.tn).1:Nat):=⟨_,rfl⟩
 obtain⟨u2,hu2⟩:∃z:Int,z=((useE es o.tn).2:Nat):=⟨_,rfl⟩
 have HU:Hid (∀W,Same w W→Calls Tryz.prog 32 #[.pointer (some ⟨p,0,none⟩),.string o.tn] W fun e w2=>e=.returned (.agg #[.int .i64 u1,.int .i64 u2])∧Same W w2):=hid (fun W hk1=>by rw[hu1,hu2];exact huse W hk1 o.tn)
 have HST:=hid hst
 have HRU:Hid (∀W,Same w W→Calls Tryz.prog 54 #[.slice a n cc,.string o.tn] W fun e w2=>e=.returned (.agg #[.int .i64 u1,.int .i64 u2])∧Same W w2):=hid (fun W hk1=>by rw[hu1,hu2];exact ruse14 W 0 a n cc es (hrow W hk1) (by omega) (fun x hx9=>by have:=hsm x hx9;omega) o.tn)
 clear hSt hn9 hsm hrow hst hdmp huse hu1 hu2
 obtain⟨c0,c1,c2,c3,c4,c5⟩:=HB.out.c6w
 show Calls Tryz.prog 12 #[.pointer (some ⟨p,0,none⟩),.pointer (some ⟨r,0,none⟩),.agg #[.int .i64 o.kind,.int .i64 o.num,.string o.tn,.string o.ar,.string o.en,.string o.dt]] w _
 rw[hk]
 rw[hk]at hW1
 clear h hi _hx _hd
 go_enter Tryz.func12,Tryz.ntmps12
 go_upto_region 1 with fail
 rw[←hW1,←hxb]
 clear hW1 hxb hk
 go_upto_region 40 with fail
 have HKA:=hid (HK1.out)
 go_region_held3 (fun w'=>w'.cell? ⟨xb,2,none⟩=some (.string o.tn)) (first | go_keep | assumption)
  (first
   | (go_at_call 32;refine(HU.out _ (by first | exact HKA.out | exact HKA.out.drew)).mono ?_;rintro e w2 ⟨rfl,hk2⟩;have HKB:Hid (Same w w2):=hid ((show Same w _ from by first | exact HKA.out | exact HKA.out.drew).trans hk2);have HB2:=hid ((HB.out.kept (show Same W1 _ from(by first | exact Kept.refl _ _ | exact(Kept.refl _ _).drew)) (fun f=>f)).kept hk2 (fun f=>f));clear hk2 c0 c1 c2 c3 c4 c5;obtain⟨c0,c1,c2,c3,c4,c5⟩:=HB2.out.c6w)
   | (go_at_call 53;refine(HST.out _ (by first | exact HKB.out | exact HKB.out.drew)).mono ?_;rintro e w3 ⟨rfl,hk3⟩;have HKC:Hid (Same w w3):=hid ((show Same w _ from by first | exact HKB.out | exact HKB.out.drew).trans hk3);have HB3:=hid ((HB2.out.kept (show Same w2 _ from(by first | exact Kept.refl _ _ | exact(Kept.refl _ _).drew)) (fun f=>f)).kept hk3 (fun f=>f));clear hk3 c0 c1 c2 c3 c4 c5;obtain⟨c0,c1,c2,c3,c4,c5⟩:=HB3.out.c6w)
   | (go_at_call 54;refine(HRU.out _ (by first | exact HKC.out | exact HKC.out.drew)).mono ?_;rintro e w4 ⟨rfl,hk4⟩;have HBO:Hid (Bth w0 p r (i+1) w4):=hid (HH.out.next ((show Same w _ from by first | exact HKC.out | exact HKC.out.drew).trans hk4));have HB4:=hid ((HB3.out.kept (show Same w3 _ from(by first | exact Kept.refl _ _ | exact(Kept.refl _ _).drew)) (fun f=>f)).kept hk4 (fun f=>f));clear hk4 c0 c1 c2 c3 c4 c5;obtain⟨c0,c1,c2,c3,c4,c5⟩:=HB4.out.c6w))
 all_goals
  go_wp2_with fail
  go_ret
  exact⟨by simp,HBO.out⟩

end

end Go.Proofs.YtcfociogljhbiaaGreatDoor

namespace Go.Proofs.YtcfociogljhbiaaGreatDoor
open Go.RowKit Go.Maps Go.Sort Go.Shelf Go.Lib

theorem flat_w14:∀(xs:List Wr) (i:Nat) (x:Wr) (_:i<xs.length),(((((xs.flatMap wrE).set (i*5) (.string x.b.tn)).set (i*5+1) (.string x.b.ar)).set (i*5+2) (.string x.n.s)).set (i*5+3) (.bool x.there)).set (i*5+4) (.string x.data)=(xs.set i x).flatMap wrE
 | [],i,x,hi=>by simp at hi
 | y::xs,0,x,_=>by simp[wrE]
 | y::xs,i+1,x,hi=>by
  have h1:=flat_w14 xs i x (by simp at hi;omega)
  rw[List.flatMap_cons,List.set_cons_succ,List.flatMap_cons,←h1]
  have e:∀q,(i+1)*5+q=(i*5+q)+1+1+1+1+1:=fun q=>by omega
  have e0:(i+1)*5=(i*5)+1+1+1+1+1:=by omega
  rw[e 1,e 2,e 3,e 4,e0]
  rfl

def setW14(w:World)(g i:Nat)(x:Wr):World:=((((w.setCell ⟨g,i*5,none⟩ (.string x.b.tn)).setCell ⟨g,i*5+1,none⟩ (.string x.b.ar)).setCell ⟨g,i*5+2,none⟩ (.string x.n.s)).setCell ⟨g,i*5+3,none⟩ (.bool x.there)).setCell ⟨g,i*5+4,none⟩ (.string x.data)

theorem setW14_kept(w:World)(g i:Nat)(x:Wr):Kept (fun j=>j=g) w (setW14 w g i x):=(((((Kept.refl (fun j=>j=g) w).setCell _ _ (.inl rfl)).setCell _ _ (.inl rfl)).setCell _ _ (.inl rfl)).setCell _ _ (.inl rfl)).setCell _ _ (.inl rfl)

theorem RowC.setW14{B:Nat}{w:World}{g n cap:Nat}{xs:List Wr}(h:RowC B 65 5 wrE w (.slice (some ⟨g,0,none⟩) n cap) xs)(i:Nat)(x:Wr)(hi:i<xs.length):
  RowC B 65 5 wrE (setW14 w g i x) (.slice (some ⟨g,0,none⟩) n cap) (xs.set i x):=by
 have hl:=h.len
 subst hl
 have h1:=(World.ownsRow.stored h (i*5) (.string x.b.tn)).1
 have h2:=(World.ownsRow.stored h1 (i*5+1) (.string x.b.ar)).1
 have h3:=(World.ownsRow.stored h2 (i*5+2) (.string x.n.s)).1
 have h4:=(World.ownsRow.stored h3 (i*5+3) (.bool x.there)).1
 have h5:=(World.ownsRow.stored h4 (i*5+4) (.string x.data)).1
 rw[flat_w14 xs i x hi]at h5
 unfold RowC
 rw[List.length_set]
 exact h5

def spB:ByteArray:=⟨#[115,112,111,105,108,116]⟩
def sp14:Wr:=⟨⟨⟨#[]⟩,⟨#[]⟩,by decide⟩,⟨⟨#[]⟩,by decide⟩,false,⟨#[115,112,111,105,108,116]⟩,by decide⟩

section
variable {w0 w:World} {p r i:Nat}

set_option maxRecDepth 100000 in
set_option maxHeartbeats 4000000 in
theorem step14_7(h:Bth w0 p r i w)(hi:i≤6000)(_hx:Mxl w0)(o:Ot)(_hd:o.dt.size≤4611686018427379712)(hk:o.kind=7):Calls Tryz.prog 12 #[.pointer (some ⟨p,0,none⟩),.pointer (some ⟨r,0,none⟩),.agg (otE o).toArray] w fun e w'=>e=.returned (.bool true)∧Bth w0 p r (i+1) w':=by
 obtain⟨W1,hW1⟩:∃W,W=w.alloc (.cells #[.int .i64 o.kind,.int .i64 o.num,.string o.tn,.string o.ar,.string o.en,.string o.dt] 24):=⟨_,rfl⟩
 obtain⟨xb,hxb⟩:∃b,b=w.heap.size:=⟨_,rfl⟩
 have HK1:Hid (Same w W1):=hid (by rw[hW1];exact(Kept.refl _ w).alloc _)
 have HB:Hid (Blk W1 xb #[.int .i64 7,.int .i64 o.num,.string o.tn,.string o.ar,.string o.en,.string o.dt] 24):=hid (by rw[hW1,hxb,←hk];exact Blk.new w _ _)
 have HX:=hid hxb
 have HH:Hid (Bth w0 p r i w):=hid h
 have HP:Hid (∀W,Same W1 W→Calls Tryz.prog 23 #[.pointer (some ⟨p,0,none⟩),.int .i64 o.num] W fun e w1=>∃(t:Int) (a:Option Addr) (m cap:Nat) (er:Int) (xs:List Wr),e=.returned (.tuple #[.agg #[.int .i64 t,.slice a m cap],.int .i64 er])∧RowC W.heap.size 65 5 wrE w1 (.slice a m cap) xs∧xs.length≤100000∧Same W w1∧∀W2,Same w1 W2→Calls Tryz.prog 46 #[.pointer (some ⟨r,0,none⟩),.int .i64 o.num] W2 fun e w2=>∃(a':Option Addr) (m' cap':Nat),e=.returned (.tuple #[.agg #[.int .i64 t,.slice a' m' cap'],.int .i64 er])∧RowC W2.heap.size 65 5 wrE w2 (.slice a' m' cap') xs∧Same W2 w2):=hid (fun W hk1=>both_check (h.same (HK1.out.trans hk1)) hi o.n)
 obtain⟨c0,c1,c2,c3,c4,c5⟩:=HB.out.c6w
 show Calls Tryz.prog 12 #[.pointer (some ⟨p,0,none⟩),.pointer (some ⟨r,0,none⟩),.agg #[.int .i64 o.kind,.int .i64 o.num,.string o.tn,.string o.ar,.string o.en,.string o.dt]] w _
 rw[hk]
 rw[hk]at hW1
 clear h hi _hx _hd
 go_enter Tryz.func12,Tryz.ntmps12
 go_upto_region 1 with fail
 rw[←hW1,←hxb]
 clear hW1 hxb hk
 go_wp2_with fail
 refine(HP.out _ (Kept.refl _ _)).mono ?_
 rintro e w2 ⟨t,a,m,cap,er,xs,rfl,hr2,hxl,hk2,hn2⟩
 have HM:Hid (m=xs.length∧m≤100000∧(xs≠[]→∃g,a=some ⟨g,0,none⟩)∧w.heap.size≤W1.heap.size):=hid (by
  obtain⟨a9,c9,hv9,hg9,_⟩:=hr2.shape
  injection hv9 with e1 e2 _
  exact⟨e2,by omega,by rw[e1];exact hg9,HK1.out.size⟩)
 obtain⟨W3,hW3⟩:∃W,W=w2.alloc (.cells #[.int .i64 t,.slice a m cap] 59):=⟨_,rfl⟩
 obtain⟨g3,hg3⟩:∃b,b=w2.heap.size:=⟨_,rfl⟩
 have hk23:Same w2 W3:=by rw[hW3];exact(Kept.refl _ _).alloc _
 have hb2:=HB.out.kept hk2 (fun f=>f)
 have HB3:=hid (hb2.kept hk23 (fun f=>f))
 have HG3:Hid (Blk W3 g3 #[.int .i64 t,.slice a m cap] 59):=hid (by rw[hW3,hg3];exact Blk.new w2 _ _)
 have HR3:=hid (hr2.kept hk23 (fun _ _ f=>f))
 have HN2:=hid (hn2 W3 hk23)
 have HK3:=hid ((HK1.out.trans hk2).trans hk23)
 clear c0 c1 c2 c3 c4 c5 hk2 hk23 hb2 hn2 hr2 hxl
 obtain⟨c0,c1,c2,c3,c4,c5⟩:=HB3.out.c6w
 go_upto_region 22 with fail
 rw[←hW3,←hg3]
 clear hW3 hg3
 go_wp2_with fail
 refine HN2.out.mono ?_
 rintro e w4 ⟨a',m',cap',rfl,hr4,hk4⟩
 obtain⟨W5,hW5⟩:∃W,W=w4.alloc (.cells #[.int .i64 t,.slice a' m' cap'] 59):=⟨_,rfl⟩
 obtain⟨g5,hg5⟩:∃b,b=w4.heap.size:=⟨_,rfl⟩
 have hk45:Same w4 W5:=by rw[hW5];exact(Kept.refl _ _).alloc _
 have HG5:=hid ((HG3.out.kept hk4 (fun f=>f)).kept hk45 (fun f=>f))
 have HE5:Hid (Blk W5 g5 #[.int .i64 t,.slice a' m' cap'] 59):=hid (by rw[hW5,hg5];exact Blk.new w4 _ _)
 have HR5:=hid ((HR3.out.kept hk4 (fun _ _ f=>f)).kept hk45 (fun _ _ f=>f))
 have HW:=hid (rwrites14 W5 _ _ _ _ xs HR5.out (hr4.kept hk45 (fun _ _ f=>f)) (by have:=HM.out;omega))
 have HK5:=hid ((HK3.out.trans hk4).trans hk45)
 have d0:W5.cell? ⟨g3,0,none⟩=some (.int .i64 t):=HG5.out.cell 0
 have d1:W5.cell? ⟨g3,1,none⟩=some (.slice a m cap):=HG5.out.cell 1
 have e0:W5.cell? ⟨g5,0,none⟩=some (.int .i64 t):=HE5.out.cell 0
 have e1:W5.cell? ⟨g5,1,none⟩=some (.slice a' m' cap'):=HE5.out.cell 1
 clear c0 c1 c2 c3 c4 c5 hk4 hk45 hr4
 go_upto_region 23 with fail
 rw[←hW5,←hg5]
 clear hW5 hg5
 go_wp2_with fail
 refine HW.out.mono ?_
 rintro e w6 ⟨rfl,hk6⟩
 have HR6:=hid (HR5.out.kept hk6 (fun _ _ f=>f))
 have HG6:=hid (HG5.out.kept hk6 (fun f=>f))
 have HK6:=hid (HK5.out.trans hk6)
 clear d0 d1 e0 e1 hk6
 go_wp2_with fail
 go_loopg [24] m (fun q z9 wr=>∃j:Nat,m-j≤q∧j≤m∧z9=.int .i64 (j:Nat)∧Hid ((∃ys:List Wr,ys.length=xs.length∧RowC W1.heap.size 65 5 wrE wr (.slice a m cap) ys)∧Kept (fun k=>(Value.slice a m cap).ownBlock=some k) w6 wr))
 case atStart=>exact⟨0,by omega,by omega,rfl,hid ⟨⟨xs,rfl,HR6.out⟩,Kept.refl _ _⟩⟩
 case round=>
  obtain⟨j,hq,hjl,rfl,HS⟩:=hrel
  have HGW:Hid (Blk wr g3 #[.int .i64 t,.slice a m cap] 59):=hid (HG6.out.kept HS.out.2 (HR6.out.off14 HG6.out (by decide)))
  have d1:wr.cell? ⟨g3,1,none⟩=some (.slice a m cap):=HGW.out.cell 1
  by_cases hlt:j<m
  ·have hli:decide (j<m)=true:=decide_eq_true hlt
   have hli2:(j:Int)<(m:Int):=by omega
   obtain⟨g,hg⟩:∃g,a=some ⟨g,0,none⟩:=HM.out.2.2.1 (fun e=>by have:=HM.out.1;rw[e]at this;simp at this;omega)
   subst hg
   obtain⟨⟨ys,hyl,hyr⟩,hyk⟩:=HS.out
   have hj2:j<ys.length:=by have:=HM.out.1;omega
   obtain⟨y,hy⟩:∃y,y=ys[j]:=⟨_,rfl⟩
   obtain⟨k0,k1,k2,k3,k4⟩:=wr_cells hyr j hj2
   rw[←hy]at k0 k1 k2 k3 k4
   have z0:=hyr.frozen (j*5)
   have z1:=hyr.frozen (j*5+1)
   have z2:=hyr.frozen (j*5+2)
   have z3:=hyr.frozen (j*5+3)
   have z4:=hyr.frozen (j*5+4)
   have hiw:IntKind.i64.wrap ((j:Int)+1)=((j+1:Nat):Int):=by have:=HM.out.2.1;rw[IntKind.wrap_i64];omega
   have HN:Hid ((∃ys:List Wr,ys.length=xs.length∧RowC W1.heap.size 65 5 wrE (setW14 wr g j sp14) (.slice (some ⟨g,0,none⟩) m cap) ys)∧Kept (fun k=>(Value.slice (some ⟨g,0,none⟩) m cap).ownBlock=some k) w6 (setW14 wr g j sp14)):=hid ⟨⟨ys.set j sp14,by rw[List.length_set];exact hyl,hyr.setW14 j sp14 hj2⟩,Kept.trans hyk (setW14_kept _ _ _ _) (fun _ _ e=>e) (fun k _ e=>by rw[e];rfl)⟩
   unfold setW14 sp14 at HN
   clear hyl hyr hyk hj2 hy
   go_wp2_with fail
   all_goals go_roundg (gk-1)
   all_goals first
    | (case measure=>omega)
    | skip
   all_goals exact⟨j+1,by omega,by omega,by go_num,HN⟩
  ·have hli:decide (j<m)=false:=decide_eq_false hlt
   have HBF:Hid (Bth w0 p r (i+1) wr):=hid (HH.out.next (HK6.out.then HS.out.2 (fun k hk e=>by have:=HR6.out.ge e;have:=HM.out.2.2.2;omega)))
   go_wp2_with fail
   go_ret
   exact⟨by simp,HBF.out⟩

end

end Go.Proofs.YtcfociogljhbiaaGreatDoor

namespace Go.Proofs.YtcfociogljhbiaaGreatDoor
open Go.RowKit Go.Maps Go.Sort Go.Shelf Go.Lib

def spE:List Ent→List Ent
 | []=>[]
 | e::l=>(e.1,spB)::l

def spA(x:Ad):Ad:=⟨⟨spB,x.b.ar,⟨by decide,x.b.ok.2⟩⟩,x.a,x.n,x.c,spE x.es⟩

theorem spA_ne{x:Ad}(h:x.es≠[]):(spA x).es≠[]:=by
 unfold spA
 cases hx:x.es with
 | nil=>exact absurd hx h
 | cons e l=>simp[spE]

theorem flat_spT:∀(xs:List Ad) (i:Nat) (hi:i<xs.length),(xs.flatMap adE).set (i*3) (.string spB)=(xs.set i (spA xs[i])).flatMap adE
 | [],i,hi=>by simp at hi
 | y::xs,0,_=>by simp[adE,spA]
 | y::xs,i+1,hi=>by
  have h1:=flat_spT xs i (by simp at hi;omega)
  rw[List.flatMap_cons,List.set_cons_succ,List.flatMap_cons,List.getElem_cons_succ,←h1]
  have e2:(i+1)*3=(i*3)+1+1+1:=by omega
  rw[e2]
  rfl

theorem flat_spE(es:List Ent)(h:es≠[]):(es.flatMap enE2).set 1 (.string spB)=(spE es).flatMap enE2:=by
 cases es with
 | nil=>exact absurd rfl h
 | cons e l=>simp[enE2,spE]

section
variable {B:Nat} {w:World} {g n cap k i:Nat} {As:List Ad}

theorem DmAt.spT(h:DmAt B w (.slice (some ⟨g,0,none⟩) n cap) As)(hi:i<As.length):RowC B 83 3 adE (w.setCell ⟨g,i*3,none⟩ (.string spB)) (.slice (some ⟨g,0,none⟩) n cap) (As.set i (spA As[i]))∧∀x∈As,RowC B 108 2 enE2 (w.setCell ⟨g,i*3,none⟩ (.string spB)) (adV x) x.es:=by
 have hr:=h.row
 have hl:=hr.len
 subst hl
 have h1:=(World.ownsRow.stored hr (i*3) (.string spB)).1
 rw[flat_spT As i hi]at h1
 refine⟨?_,fun x hx=>(h.ent x hx).kept (F:=fun j=>j=g) ((Kept.refl _ w).setCell _ _ (.inl rfl)) (fun j e e2=>rows_apart (h.ent x hx) hr (by decide) j e (by rw[e2];rfl))⟩
 unfold RowC
 rw[List.length_set]
 exact h1

theorem DmAt.spoil14(h:DmAt B w (.slice (some ⟨g,0,none⟩) n cap) As)(hi:i<As.length)(hk:As[i].a=some ⟨k,0,none⟩)(hne:As[i].es≠[]):DmAt B ((w.setCell ⟨g,i*3,none⟩ (.string spB)).setCell ⟨k,1,none⟩ (.string spB)) (.slice (some ⟨g,0,none⟩) n cap) (As.set i (spA As[i])):=by
 obtain⟨h1,h2⟩:=h.spT hi
 have hm:=List.getElem_mem hi
 have hov:(adV As[i]).ownBlock=some k:=by unfold adV;rw[hk];rfl
 have he:=h2 _ hm
 have hkg:k≠g:=fun e=>rows_apart he h1 (by decide) k hov (by rw[e];rfl)
 have hkk:Kept (fun j=>j=k) (w.setCell ⟨g,i*3,none⟩ (.string spB)) ((w.setCell ⟨g,i*3,none⟩ (.string spB)).setCell ⟨k,1,none⟩ (.string spB)):=(Kept.refl _ _).setCell _ _ (.inl rfl)
 have hs:RowC B 108 2 enE2 ((w.setCell ⟨g,i*3,none⟩ (.string spB)).setCell ⟨k,1,none⟩ (.string spB)) (adV (spA As[i])) (spA As[i]).es:=by
  have e1:adV As[i]=.slice (some ⟨k,0,none⟩) As[i].n As[i].c:=by unfold adV;rw[hk]
  rw[e1]at he
  have hl:=he.len
  rw[←hl]at he e1
  have h9:=(World.ownsRow.stored he 1 (.string spB)).1
  rw[flat_spE _ hne]at h9
  have e2:adV (spA As[i])=.slice (some ⟨k,0,none⟩) As[i].es.length As[i].c:=e1
  rw[e2]
  have e3:(spA As[i]).es.length=As[i].es.length:=by
   unfold spA
   cases hx:As[i].es with
   | nil=>exact absurd hx hne
   | cons e l=>simp[spE]
  unfold RowC
  rw[e3]
  exact h9
 refine⟨h1.kept hkk (fun j e e2=>hkg (by rw[←e2];have:some g=some j:=e;injection this with q;exact q.symm)),fun x hx=>?_,?_⟩
 ·obtain⟨j,hj,rfl⟩:=List.getElem_of_mem hx
  have hj':j<As.length:=by rw[List.length_set]at hj;exact hj
  by_cases e:j=i
  ·subst e
   have e9:(As.set j (spA As[j]))[j]'hj=spA As[j]:=by simp
   rw[e9]
   exact hs
  ·have e9:(As.set i (spA As[i]))[j]'hj=As[j]:=List.getElem_set_ne (Ne.symm e) hj
   rw[e9]
   refine(h2 _ (List.getElem_mem hj')).kept hkk (fun q e1 e2=>?_)
   subst e2
   rcases Nat.lt_or_gt_of_ne e with q1 | q1
   ·exact List.pairwise_iff_getElem.1 h.apt j i hj' hi q1 q e1 hov
   ·exact List.pairwise_iff_getElem.1 h.apt i j hi hj' q1 q hov e1
 ·have e0:(As.set i (spA As[i])).map adV=As.map adV:=by
   rw[List.map_set]
   have e1:adV (spA As[i])=(As.map adV)[i]'(by rw[List.length_map];exact hi):=by rw[List.getElem_map];rfl
   rw[e1,List.set_getElem_self]
  have h9:=h.apt
  have h8:(As.map adV).Pairwise (fun u v=>∀k,u.ownBlock=some k→¬v.ownBlock=some k):=by rw[List.pairwise_map];exact h9
  rw[←e0,List.pairwise_map]at h8
  exact h8

end

section
variable {w0 w:World} {p r i:Nat}

set_option maxRecDepth 100000 in
set_option maxHeartbeats 4000000 in
theorem step14_0(h:Bth w0 p r i w)(hi:i≤6000)(o:Ot)(hk:o.kind≠1∧o.kind≠2∧o.kind≠3∧o.kind≠4∧o.kind≠5∧o.kind≠6∧o.kind≠7∧o.kind≠8∧o.kind≠9∧o.kind≠10∧o.kind≠11):Calls Tryz.prog 12 #[.pointer (some ⟨p,0,none⟩),.pointer (some ⟨r,0,none⟩),.agg (otE o).toArray] w fun e w'=>e=.returned (.bool true)∧Bth w0 p r (i+1) w':=by
 obtain⟨W1,hW1⟩:∃W,W=w.alloc (.cells #[.int .i64 o.kind,.int .i64 o.num,.string o.tn,.string o.ar,.string o.en,.string o.dt] 24):=⟨_,rfl⟩
 obtain⟨xb,hxb⟩:∃b,b=w.heap.size:=⟨_,rfl⟩
 have HK1:Hid (Same w W1):=hid (by rw[hW1];exact(Kept.refl _ w).alloc _)
 have HB:Hid (Blk W1 xb #[.int .i64 o.kind,.int .i64 o.num,.string o.tn,.string o.ar,.string o.en,.string o.dt] 24):=hid (by rw[hW1,hxb];exact Blk.new w _ _)
 have HH:Hid (Bth w0 p r i w):=hid h
 obtain⟨S,es,a,n,cc,hSt,hn9,hsm,hrow,hst,hdmp,_⟩:=state_any h hi
 obtain⟨z,hz1,hz2⟩:=both_now h hi
 have HD:Hid (∀W,Same w W→Calls Tryz.prog 22 #[.pointer (some ⟨p,0,none⟩)] W fun e w2=>DumA W (visF S.M.V S.M.now) e w2):=hid hdmp
 have HST:Hid (∀W,Same w W→Calls Tryz.prog 53 #[.pointer (some ⟨r,0,none⟩)] W fun e w2=>e=.returned (.slice a n cc)∧Same W w2):=hid hst
 have HRD:Hid (∀W,Same w W→Calls Tryz.prog 55 #[.slice a n cc] W fun e w2=>DumA W (visF S.M.V S.M.now) e w2):=hid (fun W hk1=>rdump14 W 0 a n cc es (vkF S.M.V S.M.now) (hrow W hk1) hn9 hSt)
 have HZ1:=hid hz1
 have HZ2:=hid hz2
 clear hSt hn9 hsm hrow hst hdmp hz1 hz2
 have c0:W1.cell? ⟨xb,0,none⟩=some (.int .i64 o.kind):=HB.out.cell 0
 obtain⟨k1,k2,k3,k4,k5,k6,k7,k8,k9,k10,k11⟩:=hk
 have b1:(o.kind==1)=false:=by simpa using k1
 have b2:(o.kind==2)=false:=by simpa using k2
 have b3:(o.kind==3)=false:=by simpa using k3
 have b4:(o.kind==4)=false:=by simpa using k4
 have b5:(o.kind==5)=false:=by simpa using k5
 have b6:(o.kind==6)=false:=by simpa using k6
 have b7:(o.kind==7)=false:=by simpa using k7
 have b8:(o.kind==8)=false:=by simpa using k8
 have b9:(o.kind==9)=false:=by simpa using k9
 have b10:(o.kind==10)=false:=by simpa using k10
 have b11:(o.kind==11)=false:=by simpa using k11
 show Calls Tryz.prog 12 #[.pointer (some ⟨p,0,none⟩),.pointer (some ⟨r,0,none⟩),.agg #[.int .i64 o.kind,.int .i64 o.num,.string o.tn,.string o.ar,.string o.en,.string o.dt]] w _
 clear h hi k1 k2 k3 k4 k5 k6 k7 k8 k9 k10 k11
 go_enter Tryz.func12,Tryz.ntmps12
 go_upto_region 1 with fail
 rw[←hW1,←hxb]
 clear hW1 hxb
 go_wp2_with fail
 refine(HD.out _ HK1.out).mono ?_
 rintro e w2 ⟨v,As,rfl,hd2,hi2,hl2,hs2,hk2⟩
 have HK2:=hid (HK1.out.trans hk2)
 obtain⟨ao,cap,hv,hao,_⟩:=hd2.row.shape
 obtain⟨m,hm⟩:∃m,m=As.length:=⟨_,rfl⟩
 rw[←hm]at hv
 subst hv
 have HM:Hid (m=As.length∧m≤100000∧(As≠[]→∃g,ao=some ⟨g,0,none⟩)∧w.heap.size≤W1.heap.size∧∀x∈As,x.es≠[]):=hid ⟨hm,by omega,hao,HK1.out.size,fun x hx=>hi2.ne _ (show(x.b,x.es)∈adD As from List.mem_map.2 ⟨x,hx,rfl⟩)⟩
 have HD2:=hid hd2
 have HI2:Hid (IsDm (visF S.M.V S.M.now) (adD As)∧As.length≤100000∧∀x∈As,x.es.length≤100000):=hid ⟨hi2,hl2,hs2⟩
 clear hd2 hi2 hl2 hs2 hk2 hao hm c0
 go_wp2_with fail
 refine(HST.out _ HK2.out).mono ?_
 rintro e w3 ⟨rfl,hk3⟩
 have HK3:=hid (HK2.out.trans hk3)
 have HD3:=hid (HD2.out.same hk3)
 clear hk3
 go_wp2_with fail
 refine(HRD.out _ HK3.out).mono ?_
 rintro e w4 ⟨v4,As4,rfl,hd4,hi4,_,_,hk4⟩
 have HD4:=hid (HD3.out.same hk4)
 have HK4:=hid (HK3.out.trans hk4)
 have HSM:=hid (dsame_true w4 _ _ _ v4 As As4 HD4.out hd4 (HI2.out.1.det hi4) HI2.out.2.1 HI2.out.2.2)
 clear hd4 hi4 hk4
 go_wp2_with fail
 refine HSM.out.mono ?_
 rintro e w5 ⟨rfl,hk5⟩
 have HD5:=hid (HD4.out.same hk5)
 have HK5:=hid (HK4.out.trans hk5)
 clear hk5
 go_wp2_with fail
 go_loopg [35] m (fun q z9 wr=>∃j:Nat,m-j≤q∧j≤m∧z9=.int .i64 (j:Nat)∧Hid ((∃Bs:List Ad,Bs.length=m∧(∀x∈Bs,x.es≠[])∧DmAt W1.heap.size wr (.slice ao m cap) Bs)∧Kept (fun k=>W1.heap.size≤k) w5 wr))
 case atStart=>exact⟨0,by omega,by omega,rfl,hid ⟨⟨As,HM.out.1.symm,HM.out.2.2.2.2,HD5.out⟩,Kept.refl _ _⟩⟩
 case round=>
  obtain⟨j,hq,hjl,rfl,HS⟩:=hrel
  by_cases hlt:j<m
  ·have hli:decide (j<m)=true:=decide_eq_true hlt
   have hli2:(j:Int)<(m:Int):=by omega
   obtain⟨g,hg⟩:∃g,ao=some ⟨g,0,none⟩:=HM.out.2.2.1 (fun e=>by have:=HM.out.1;rw[e]at this;simp at this;omega)
   subst hg
   obtain⟨⟨Bs,hbl,hbn,hbd⟩,hbk⟩:=HS.out
   have hj2:j<Bs.length:=by omega
   have hmem:=List.getElem_mem hj2
   have hne:=hbn _ hmem
   obtain⟨k,hak⟩:∃k,Bs[j].a=some ⟨k,0,none⟩:=by
    obtain⟨a9,c9,hv9,hg9,_⟩:=(hbd.ent _ hmem).shape
    obtain⟨k,hk9⟩:=hg9 hne
    unfold adV at hv9
    injection hv9 with q1 _ _
    exact⟨k,by rw[q1,hk9]⟩
   obtain⟨nn,hnn⟩:∃x,x=Bs[j].n:=⟨_,rfl⟩
   obtain⟨cq,hcq⟩:∃x,x=Bs[j].c:=⟨_,rfl⟩
   have hav:adV Bs[j]=.slice (some ⟨k,0,none⟩) nn cq:=by unfold adV;rw[hak,hnn,hcq]
   have hent:=hbd.ent _ hmem
   rw[hav]at hent
   have hn1:nn=Bs[j].es.length:=hent.len.symm
   have hpos:0<Bs[j].es.length:=List.length_pos_iff.2 hne
   have hn0:decide (0<nn)=true:=decide_eq_true (by omega)
   have hn2:(0:Int)<(nn:Int):=by omega
   have hn3:0<nn:=by omega
   have r0:wr.cell? ⟨g,j*3,none⟩=some (.string Bs[j].b.tn):=RowC.cell adE_ok hbd.row j 0 hj2 (by decide)
   have r1:=hbd.row.frozen (j*3)
   obtain⟨hT1,hT2⟩:=hbd.spT hj2
   have hTe:=hT2 _ hmem
   rw[hav]at hTe
   obtain⟨W2,hW2⟩:∃W,W=wr.setCell ⟨g,j*3,none⟩ (.string spB):=⟨_,rfl⟩
   rw[←hW2]at hT1 hTe
   have s2:W2.cell? ⟨g,j*3+2,none⟩=some (.slice (some ⟨k,0,none⟩) nn cq):=by
    have h9:W2.cell? ⟨g,j*3+2,none⟩=(adE ((Bs.set j (spA Bs[j]))[j]'(by rw[List.length_set];exact hj2)))[2]?:=RowC.cell adE_ok hT1 j 2 (by rw[List.length_set];exact hj2) (by decide)
    rw[h9]
    simp only[List.getElem_set_self]
    show some (Value.slice Bs[j].a Bs[j].n Bs[j].c)=_
    rw[hak,hnn,hcq]
   have s1:W2.cell? ⟨k,1,none⟩=some (.string (Bs[j].es[0]).2):=RowC.cell enE2_ok hTe 0 1 hpos (by decide)
   have s3:=hTe.frozen 1
   obtain⟨q0,hq0⟩:∃x,x=Bs[j].b.tn:=⟨_,rfl⟩
   obtain⟨q1,hq1⟩:∃x,x=(Bs[j].es[0]).2:=⟨_,rfl⟩
   rw[←hq0]at r0
   rw[←hq1]at s1
   have hiw:IntKind.i64.wrap ((j:Int)+1)=((j+1:Nat):Int):=by have:=HM.out.2.1;rw[IntKind.wrap_i64];omega
   have HN:Hid ((∃Bs:List Ad,Bs.length=m∧(∀x∈Bs,x.es≠[])∧DmAt W1.heap.size (W2.setCell ⟨k,1,none⟩ (.string spB)) (.slice (some ⟨g,0,none⟩) m cap) Bs)∧Kept (fun k=>W1.heap.size≤k) w5 (W2.setCell ⟨k,1,none⟩ (.string spB))):=hid (by
    refine⟨⟨Bs.set j (spA Bs[j]),by rw[List.length_set];exact hbl,fun x hx=>?_,by rw[hW2];exact hbd.spoil14 hj2 hak hne⟩,?_⟩
    ·rcases List.mem_or_eq_of_mem_set hx with q1 | q1
     ·exact hbn x q1
     ·rw[q1];exact spA_ne hne
    ·rw[hW2]
     have g1:W1.heap.size≤g:=hbd.row.ge rfl
     have k1:W1.heap.size≤k:=hent.ge rfl
     exact(hbk.setCell ⟨g,j*3,none⟩ _ (.inl g1)).setCell ⟨k,1,none⟩ _ (.inl k1))
   unfold spB at hW2 HN
   clear hbl hbn hbd hbk hmem hne hak hnn hcq hav hent hn1 hT1 hT2 hTe hq0 hq1 hpos hj2
   go_upto_region 47 with fail
   rw[←hW2]
   clear hW2 r0 r1
   go_wp2_with fail
   all_goals go_roundg (gk-1)
   all_goals first
    | (case measure=>omega)
    | skip
   all_goals exact⟨j+1,by omega,by omega,by go_num,HN⟩
  ·have hli:decide (j<m)=false:=decide_eq_false hlt
   have HKR:Hid (Same w wr):=hid (HK5.out.then HS.out.2 (fun k hk e=>by have:=HM.out.2.2.2.1;omega))
   go_wp2_with fail
   refine(HZ1.out _ HKR.out).mono ?_
   rintro e w6 ⟨rfl,rfl⟩
   go_wp2_with fail
   refine(HZ2.out _ HKR.out).mono ?_
   rintro e w7 ⟨rfl,hk7⟩
   have HK7:=hid (HKR.out.trans hk7)
   clear hk7
   go_wp2_with fail
   refine(HD.out _ HK7.out).mono ?_
   rintro e w8 ⟨v8,As8,rfl,hd8,hi8,hl8,hs8,hk8⟩
   have HK8:=hid (HK7.out.trans hk8)
   have HD8:Hid (DmAt w7.heap.size w8 v8 As8∧IsDm (visF S.M.V S.M.now) (adD As8)∧As8.length≤100000∧∀x∈As8,x.es.length≤100000):=hid ⟨hd8,hi8,hl8,hs8⟩
   clear hd8 hi8 hl8 hs8 hk8
   go_wp2_with fail
   refine(HST.out _ HK8.out).mono ?_
   rintro e w9 ⟨rfl,hk9⟩
   have HK9:=hid (HK8.out.trans hk9)
   have HD9:=hid (HD8.out.1.same hk9)
   clear hk9
   go_wp2_with fail
   refine(HRD.out _ HK9.out).mono ?_
   rintro e w10 ⟨v10,As10,rfl,hd10,hi10,_,_,hk10⟩
   have HK10:=hid (HK9.out.trans hk10)
   have HSM2:=hid (dsame_true w10 _ _ v8 v10 As8 As10 (HD9.out.same hk10) hd10 (HD8.out.2.1.det hi10) HD8.out.2.2.1 HD8.out.2.2.2)
   clear hd10 hi10 hk10
   go_wp2_with fail
   refine HSM2.out.mono ?_
   rintro e w11 ⟨rfl,hk11⟩
   have HBF:Hid (Bth w0 p r (i+1) w11):=hid (HH.out.next (HK10.out.trans hk11))
   clear hk11
   go_wp2_with fail
   go_ret
   exact⟨by simp,HBF.out⟩

theorem step14(h:Bth w0 p r i w)(hi:i≤6000)(hx:Mxl w0)(o:Ot)(hd:o.dt.size≤4611686018427379712):Calls Tryz.prog 12 #[.pointer (some ⟨p,0,none⟩),.pointer (some ⟨r,0,none⟩),.agg (otE o).toArray] w fun e w'=>e=.returned (.bool true)∧Bth w0 p r (i+1) w':=by
 by_cases k1:o.kind=1
 ·exact step14_1 h hi hx o hd k1
 by_cases k2:o.kind=2
 ·exact step14_2 h hi hx o hd k2
 by_cases k3:o.kind=3
 ·exact step14_3 h hi hx o hd k3
 by_cases k4:o.kind=4
 ·exact step14_4 h hi hx o hd k4
 by_cases k5:o.kind=5
 ·exact step14_5 h hi hx o hd k5
 by_cases k6:o.kind=6
 ·exact step14_6 h hi hx o hd k6
 by_cases k7:o.kind=7
 ·exact step14_7 h hi hx o hd k7
 by_cases k8:o.kind=8
 ·exact step14_8 h hi hx o hd k8
 by_cases k9:o.kind=9
 ·exact step14_9 h hi hx o hd k9
 by_cases k10:o.kind=10
 ·exact step14_10 h hi hx o hd k10
 by_cases k11:o.kind=11
 ·exact step14_11 h hi hx o hd k11
 exact step14_0 h hi o ⟨k1,k2,k3,k4,k5,k6,k7,k8,k9,k10,k11⟩

end

end Go.Proofs.YtcfociogljhbiaaGreatDoor

namespace Go.Proofs.YtcfociogljhbiaaGreatDoor
open Go.RowKit Go.Maps Go.Sort Go.Shelf Go.Lib

theorem tnB_eq{a b:Bx}(h:a.tn=b.tn):tnB a=tnB b:=by unfold tnB;rw[h]
theorem tnB_inj{a b:Bx}(h:tnB a=tnB b):a.tn=b.tn:=by
 have h9:(⟨a.tn,a.ok.1⟩:Nm)=⟨b.tn,b.ok.1⟩:=bysN_inj h
 exact congrArg Nm.s h9

theorem ckL_count(tn:ByteArray):∀(As:List Ad) (p:Bx) (t a:Nat),a≤16→ckL p t a As=0→(As.filter (fun x=>decide (x.b.tn=tn))).length+(if tn=p.tn then a else 0)≤16
 | [],p,t,a,ha,_=>by
  show 0+_≤16
  split<;>omega
 | x::r,p,t,a,ha,h=>by
  obtain⟨hall,hpw⟩:=ckL_ok (x::r) p t a h
  rw[ckL]at h
  by_cases hc:(sho x.b.tn && sho x.b.ar && decide (cmpB p x.b<0))=true
  ·rw[if_pos hc]at h
   by_cases hl:16<(if x.b.tn=p.tn then a else 0)+1∨8<(if x.b.tn=p.tn then t else t+1)
   ·rw[if_pos hl]at h;cases h
   ·rw[if_neg hl]at h
    by_cases he:chE14 x.es=0
    ·rw[if_pos he]at h
     have ih:=ckL_count tn r x.b _ _ (by omega) h
     by_cases e1:x.b.tn=tn
     ·subst e1
      rw[if_pos rfl]at ih
      rw[List.filter_cons_of_pos (by simp),List.length_cons]
      generalize (if x.b.tn=p.tn then a else 0)=q at ih ⊢
      omega
     ·rw[if_neg (fun q=>e1 q.symm)]at ih
      rw[List.filter_cons_of_neg (by simpa using e1)]
      by_cases e2:tn=p.tn
      ·have hnil:r.filter (fun y=>decide (y.b.tn=tn))=[]:=by
        rw[List.filter_eq_nil_iff]
        intro y hy q
        have q:y.b.tn=tn:=by simpa using q
        have h1:ltB p x.b:=(hall x List.mem_cons_self).2.2.2
        have h2:ltB x.b y.b:=(List.pairwise_cons.1 hpw).1 y hy
        have h3:tnB p=tnB y.b:=tnB_eq (by rw[q,e2])
        have h4:tnB p=tnB x.b:=by
         rcases h1 with g | g
         ·rcases h2 with g2 | g2
          ·have:=List.lt_trans g g2
           rw[h3]at this
           exact absurd this (List.lt_irrefl _)
          ·rw[g2.1,←h3]at g
           exact absurd g (List.lt_irrefl _)
         ·exact g.1
        exact e1 (by rw[←tnB_inj h4,e2])
       rw[hnil,if_pos e2]
       show 0+a≤16
       omega
      ·rw[if_neg e2];exact ih
    ·rw[if_neg he]at h;exact absurd h he
  ·rw[if_neg hc]at h;cases h

theorem ups_mem{ws:List Wr}(f:Vf)(hp:ws.Pairwise (fun x y=>keO x≠keO y)){w:Wr}(hw:w∈ws):upsW ws f (keO w)=(if w.there then some w.data else none):=by
 induction ws generalizing f with
 | nil=>cases hw
 | cons y r ih=>
  obtain⟨h1,h2⟩:=List.pairwise_cons.1 hp
  show upsW r (upW y f) (keO w)=_
  rcases List.mem_cons.1 hw with e | e
  ·subst e
   rw[upsW_at _ h2,List.find?_eq_none.2 (fun z hz=>by simpa using fun e=>h1 z hz e.symm)]
   simp[upW]
  ·exact ih _ h2 e

theorem ups_some{ws:List Wr}(hp:ws.Pairwise (fun x y=>keO x≠keO y)){k:Ke}{d:ByteArray}(h:upsW ws (fun _=>none) k=some d):∃w∈ws,keO w=k∧w.data=d:=by
 rw[upsW_at _ hp]at h
 cases hf:ws.find? (fun x=>decide (keO x=k)) with
 | none=>rw[hf]at h;cases h
 | some w=>
  rw[hf]at h
  have h1:=List.mem_of_find?_eq_some hf
  have h2:=List.find?_some hf
  cases ht:w.there with
  | false=>simp[ht]at h
  | true=>
   simp[ht]at h
   exact⟨w,h1,by simpa using h2,h⟩

section
variable {As:List Ad} (hc:ckL bx0 0 0 As=0)
include hc

theorem ck_es{x:Ad}(hx:x∈As):x.es≠[]∧x.es.length≤64∧(∀e∈x.es,e.2.size≤8192)∧x.es.Pairwise (fun p q=>bysN p.1<bysN q.1):=by
 obtain⟨h1,h2,h3,h4⟩:=chE14_ok ((ckL_ok As _ _ _ hc).1 x hx).2.2.1
 refine⟨fun e=>by rw[e]at h1;simp at h1,h2,fun e he=>(h3 e he).2,h4.imp (fun {p q} z=>(bl14_lt _ _).1 z)⟩

theorem ck_one{x y:Ad}(hx:x∈As)(hy:y∈As)(e:x.b=y.b):x=y:=by
 have hp:=(ckL_ok As _ _ _ hc).2
 obtain⟨i,hi,rfl⟩:=List.getElem_of_mem hx
 obtain⟨j,hj,rfl⟩:=List.getElem_of_mem hy
 rcases Nat.lt_trichotomy i j with q | q | q
 ·have:=List.pairwise_iff_getElem.1 hp i j hi hj q
  rw[e]at this
  exact absurd this (ltB_irr _)
 ·subst q;rfl
 ·have:=List.pairwise_iff_getElem.1 hp j i hj hi q
  rw[e]at this
  exact absurd this (ltB_irr _)

theorem wrOf_is{x:Ad}(hx:x∈As){e:Nm×ByteArray}(he:e∈x.es):keO (wrOf14 x.b e)=(x.b,e.1)∧(wrOf14 x.b e).there=true∧(wrOf14 x.b e).data=e.2:=by
 have h1:=(ck_es hc hx).2.2.1 e he
 have h2:e.2.size≤maxLen:=by unfold maxLen;omega
 unfold wrOf14
 rw[dif_pos h2]
 exact⟨rfl,rfl,rfl⟩

theorem wrs_apart:(wrsOf14 As).Pairwise (fun x y=>keO x≠keO y):=by
 unfold wrsOf14
 rw[List.pairwise_flatMap]
 refine⟨fun x hx=>?_,?_⟩
 ·rw[List.pairwise_map]
  refine List.Pairwise.imp_of_mem ?_ (ck_es hc hx).2.2.2
  intro p q hp hq hlt e
  rw[(wrOf_is hc hx hp).1,(wrOf_is hc hx hq).1]at e
  have:p.1=q.1:=congrArg Prod.snd e
  rw[this]at hlt
  exact List.lt_irrefl _ hlt
 ·refine List.Pairwise.imp_of_mem ?_ (ckL_ok As _ _ _ hc).2
  intro x y hx hy hlt u hu v hv e
  obtain⟨p,hp,rfl⟩:=List.mem_map.1 hu
  obtain⟨q,hq,rfl⟩:=List.mem_map.1 hv
  rw[(wrOf_is hc hx hp).1,(wrOf_is hc hy hq).1]at e
  have:x.b=y.b:=congrArg Prod.fst e
  rw[this]at hlt
  exact ltB_irr _ hlt

theorem wrs_mem{w:Wr}(hw:w∈wrsOf14 As):∃x∈As,∃e∈x.es,keO w=(x.b,e.1)∧w.there=true∧w.data=e.2:=by
 obtain⟨x,hx,h⟩:=List.mem_flatMap.1 hw
 obtain⟨e,he,rfl⟩:=List.mem_map.1 h
 exact⟨x,hx,e,he,wrOf_is hc hx he⟩

theorem ck_dm:IsDm (fun b n=>upsW (wrsOf14 As) (fun _=>none) (b,n)) (adD As):=by
 have hin:∀{x:Ad} {e:Nm×ByteArray},x∈As→e∈x.es→upsW (wrsOf14 As) (fun _=>none) (x.b,e.1)=some e.2:=fun {x e} hx he=>by
  have h1:=ups_mem (fun _=>none) (wrs_apart hc) (w:=wrOf14 x.b e) (List.mem_flatMap.2 ⟨x,hx,List.mem_map.2 ⟨e,he,rfl⟩⟩)
  obtain⟨a1,a2,a3⟩:=wrOf_is hc hx he
  rw[a1,a2,a3]at h1
  exact h1
 have hout:∀{b:Bx} {n:Nm} {d:ByteArray},upsW (wrsOf14 As) (fun _=>none) (b,n)=some d→∃x∈As,x.b=b∧(n,d)∈x.es:=fun {b n d} h=>by
  obtain⟨w,hw,h1,h2⟩:=ups_some (wrs_apart hc) h
  obtain⟨x,hx,e,he,a1,_,a3⟩:=wrs_mem hc hw
  rw[a1]at h1
  refine⟨x,hx,congrArg Prod.fst h1,?_⟩
  have e1:e.1=n:=congrArg Prod.snd h1
  have e2:e.2=d:=a3.symm.trans h2
  rw[←e1,←e2]
  exact he
 refine⟨?_,fun x hx=>?_,fun x hx=>?_,fun b n h=>?_⟩
 ·unfold adD
  rw[List.pairwise_map]
  exact(ckL_ok As _ _ _ hc).2
 ·obtain⟨y,hy,rfl⟩:=List.mem_map.1 hx
  exact(ck_es hc hy).1
 ·obtain⟨y,hy,rfl⟩:=List.mem_map.1 hx
  refine⟨(ck_es hc hy).2.2.2,fun n d=>⟨fun h=>hin hy h,fun h=>?_⟩⟩
  obtain⟨z,hz,e,he⟩:=hout h
  rw[ck_one hc hz hy e]at he
  exact he
 ·cases hf:upsW (wrsOf14 As) (fun _=>none) (b,n) with
  | none=>exact absurd hf h
  | some d=>
   obtain⟨z,hz,e,_⟩:=hout hf
   exact⟨(z.b,z.es),List.mem_map.2 ⟨z,hz,rfl⟩,e⟩

theorem ck_ste:StE (upsW (wrsOf14 As) (fun _=>none)) (etsOf14 As):=by
 have h:=dm_ets (ck_dm hc)
 have e:etsD (adD As)=etsOf14 As:=by
  unfold etsD adD etsOf14
  rw[List.flatMap_map]
 rw[e]at h
 exact h

theorem ck_fit:FitD (adD As):=by
 refine⟨fun x hx=>?_,fun tn=>?_⟩
 ·obtain⟨y,hy,rfl⟩:=List.mem_map.1 hx
  exact(ck_es hc hy).2.1
 ·have h:=ckL_count tn As bx0 0 0 (Nat.zero_le _) hc
  unfold adD
  rw[List.filter_map,List.length_map]
  exact Nat.le_trans (Nat.le_add_right _ _) h

def s014(As:List Ad)(t:Int):Ts:=⟨putM ⟨0,0,fun _ _=>[]⟩ (t+1) (wrsOf14 As),0,fun _=>none,0,[]⟩

omit hc in
theorem upTo0(t:Int):UpTo (fun _ _=>[]) t:=fun _ _=>⟨List.Pairwise.nil,fun x hx=>by cases hx⟩

theorem init_rl{t:Int}(ht:0≤t):Rl (s014 As t) ⟨t,[etsOf14 As],[],[],1⟩:=by
 have hv:vkF (putsF (fun _ _=>[]) (wrsOf14 As) (t+1)) (t+1)=upsW (wrsOf14 As) (fun _=>none):=by
  rw[vis_puts (upTo0 (t+1)) _ (Int.le_refl _)]
  rfl
 refine⟨ht,?_,rfl,?_,(upTo0 (t+1)).puts _,puts_van (fun _ _ v hv=>by cases hv) _,rfl,rfl,List.Pairwise.nil,fun x hx=>(by cases hx),fun x hx=>(by cases hx),fun n hn=>absurd rfl hn,?_,⟨rfl,Nat.le_refl _⟩,fun D hD=>?_⟩
 ·show t+1=t+((1:Nat):Int)
  rfl
 ·show(0:Int)≤t+1
  omega
 ·show StE (vkF (putsF (fun _ _=>[]) (wrsOf14 As) (t+1)) (t+1)) (etsOf14 As)
  rw[hv]
  exact ck_ste hc
 ·have hD':IsDm (fun b n=>vkF (putsF (fun _ _=>[]) (wrsOf14 As) (t+1)) (t+1) (b,n)) D:=hD
  rw[hv]at hD'
  rw[hD'.det (ck_dm hc)]
  exact ck_fit hc

theorem init_jn{t:Int}:Jn (s014 As t) (3*(wrsOf14 As).length) 0 (wrsOf14 As).length []:=by
 refine⟨⟨fun b n v hv=>?_,fun n ow mv e=>by cases e⟩,by show(0:Int)≤_;omega,by omega,by simp only[List.length_nil];omega,fun n ow mv e=>by cases e⟩
 rcases puts_in _ _ _ b n v hv with q | ⟨x,hx,q⟩
 ·cases q
 ·obtain⟨y,hy,e,he,_,a2,a3⟩:=wrs_mem hc hx
  rw[q]
  unfold verOf
  rw[a2,if_pos rfl]
  show x.data.size≤8192
  rw[a3]
  exact(ck_es hc hy).2.2.1 e he

end

end Go.Proofs.YtcfociogljhbiaaGreatDoor

namespace Go.Proofs.YtcfociogljhbiaaGreatDoor
open Go.RowKit Go.Maps Go.Sort Go.Shelf Go.Lib

theorem Bth.sm{w0 w:World}{p r i:Nat}(h:Bth w0 p r i w):Same w0 w:=by
 obtain⟨K,N,B,S,F,T,X,Br,P,G,h1,_⟩:=h
 exact h1.sm

theorem arc_same{w w':World}{v:Value}{As:List Ad}(h:ArcI w (fun k=>k<w.heap.size) v As)(hk:Same w w'):ArcI w' (fun k=>k<w'.heap.size) v As:=
 ⟨(h.1.kept adE_ok hk (fun _ _ _ f=>f)).mono (fun _ q=>Nat.lt_of_lt_of_le q hk.size),fun x hx=>((h.2 x hx).kept enE2_ok hk (fun _ _ _ f=>f)).mono (fun _ q=>Nat.lt_of_lt_of_le q hk.size)⟩

theorem init14{w0 w:World}(hx:Mxl w0)(hs:Same w0 w)(ao:Option Addr)(n c:Nat)(As:List Ad)(t:Int)(h:ArcI w0 (fun k=>k<w0.heap.size) (.slice ao n c) As)(hn:n≤4096)(ht:0≤t∧t≤1000000000)(hc:ckL bx0 0 0 As=0)(hl:(wrsOf14 As).length≤4096):
  Calls Tryz.prog 10 #[.slice ao n c,.int .i64 t] w fun e w1=>∃p,e=.returned (.tuple #[.pointer (some ⟨p,0,none⟩),.int .i64 0])∧Same w w1 ∧
   ∀w1',Same w1 w1'→Calls Tryz.prog 11 #[.slice ao n c,.int .i64 t] w1' fun e w2=>∃r,e=.returned (.tuple #[.pointer (some ⟨r,0,none⟩),.int .i64 0])∧Bth w0 p r (wrsOf14 As).length w2:=by
 have hes:=ck_ents14 hc
 refine(tnew_good w ao n c As t (arc_same h hs) (hx.kept hs (fun f=>f)) hn ht hc (by omega) hes).mono ?_
 rintro e w1 ⟨N,p,c1,τ,rfl,hN,hT,hL,hcl,hz,hk⟩
 refine⟨p,rfl,hk,fun w1' hk1=>?_⟩
 refine(rnew14_good w1' ao n c As t (arc_same h ((hs.trans hk).trans hk1)) hn hes ht hc).mono ?_
 rintro e w2 ⟨r,g,v,rfl,hb,hg,hrow,hge,hgp,hne,hk2⟩
 obtain⟨va,vc,hv,_⟩:=hrow.shape
 subst hv
 have hlen:=etsOf14_len As
 obtain⟨R,hRd⟩:∃R:Ri,R=⟨t,⟨some ⟨g,0,none⟩,1,1,[⟨va,(etsOf14 As).length,vc,etsOf14 As⟩]⟩,⟨none,0,0,[]⟩,⟨none,0,0,[]⟩,1⟩:=⟨_,rfl⟩
 have hR:Rm ((wrsOf14 As).length+1) w1'.heap.size w2 r R:=by
  subst hRd
  refine⟨hb,?_,fun x hx=>?_,RowC.nil,fun x hx=>(by cases hx),RowC.nil,fun x hx=>(by cases hx),List.Pairwise.nil,hgp,?_,?_,Nat.zero_le _,fun x hx=>?_,fun x hx=>(by cases hx)⟩
  ·refine RowC.ofCells sqE_ok (xs:=[(⟨va,(etsOf14 As).length,vc,etsOf14 As⟩:Sq Et)]) (cap:=1) hg rfl hge (Nat.le_refl _) (by decide) (fun j hj=>?_)
   have:j=0:=by simp at hj;omega
   subst this
   rfl
  ·rw[List.mem_singleton.1 hx];exact hrow
  ·show 1≤_
   omega
  ·exact Nat.zero_le _
  ·rw[List.mem_singleton.1 hx]
   show(etsOf14 As).length≤_
   omega
 have hTn:∀k,τ k≠0→N≤k∧k<w1.heap.size:=fun k e=>hT.new k e
 refine⟨r,rfl,3*(wrsOf14 As).length,N,0,s014 As t,fun k=>τ k≠0,[],(wrsOf14 As).length+1,w1'.heap.size,R.abs,fun k=>Rown R r k,⟨⟨c1,τ,(hT.same hk1).same hk2,⟨?_,fun x hx=>(by rw[hL]at hx;cases hx),fun y hy=>(by rw[hcl]at hy;cases hy)⟩,?_,fun _=>Iff.rfl⟩,⟨R,hR,rfl,fun _=>Iff.rfl⟩,fun k f g9=>?_,((hs.trans hk).trans hk1).trans hk2,?_,?_,hk2.size⟩,init_jn hc,?_,by omega,?_⟩
 ·show 1≤t+1∧t+1≤0+1000000001
  omega
 ·unfold absT
  rw[hL,hcl]
  rfl
 ·have h1:=(hTn k f).2
  have h2:=(hR.own g9).1
  have:=hk1.size
  omega
 ·have:=hs.size;omega
 ·have:=hs.size;have:=hk.size;have:=hk1.size;omega
 ·subst hRd
  exact init_rl hc ht.1
 ·subst hRd
  exact ht.2

def o014:Ot:=⟨0,0,⟨#[]⟩,⟨#[]⟩,⟨#[]⟩,⟨#[]⟩,Nat.zero_le _,Nat.zero_le _,Nat.zero_le _,Nat.zero_le _,by decide⟩
def o1014:Ot:=⟨10,0,⟨#[]⟩,⟨#[]⟩,⟨#[]⟩,⟨#[]⟩,Nat.zero_le _,Nat.zero_le _,Nat.zero_le _,Nat.zero_le _,by decide⟩

theorem end14{w0 w:World}{p r i:Nat}(h:Bth w0 p r i w)(hi:i≤5000)(hx:Mxl w0):Calls Tryz.prog 12 #[.pointer (some ⟨p,0,none⟩),.pointer (some ⟨r,0,none⟩),.agg #[.int .i64 0,.int .i64 0,.string ⟨#[]⟩,.string ⟨#[]⟩,.string ⟨#[]⟩,.string ⟨#[]⟩]] w fun e w'=>e=.returned (.bool true)∧Bth w0 p r (i+1) w':=
 step14 h (by omega) hx o014 (Nat.zero_le _)

theorem end1014{w0 w:World}{p r i:Nat}(h:Bth w0 p r i w)(hi:i≤5000)(hx:Mxl w0):Calls Tryz.prog 12 #[.pointer (some ⟨p,0,none⟩),.pointer (some ⟨r,0,none⟩),.agg #[.int .i64 10,.int .i64 0,.string ⟨#[]⟩,.string ⟨#[]⟩,.string ⟨#[]⟩,.string ⟨#[]⟩]] w fun e w'=>e=.returned (.bool true)∧Bth w0 p r (i+1) w':=
 step14 h (by omega) hx o1014 (Nat.zero_le _)

set_option maxRecDepth 100000 in
set_option maxHeartbeats 8000000 in
theorem runs14(w:World)(hx:Mxl w)(ao:Option Addr)(n c:Nat)(As:List Ad)(hA:ArcI w (fun k=>k<w.heap.size) (.slice ao n c) As)(so:Option Addr)(m sc:Nat)(os:List Ot)(hs:SrcC 6 otE w (fun k=>k<w.heap.size) (.slice so m sc) os)(hb:n≤1152921504606846976∧m≤1152921504606846976∧∀x∈As,x.n≤1152921504606846976)(hd:∀o∈os,o.dt.size≤4611686018427379712):
  Calls Tryz.prog 4 #[.slice ao n c,.slice so m sc] w fun e w'=>e=.returned (.bool true)∧Same w w':=by
 have HX:=hid hx
 have HA:=hid hA
 have HS:=hid hs
 have HD:=hid hd
 have HL:=largeL14 w ao n c As hA so m sc hb
 clear hx hA hs hd hb
 go_enter Tryz.func4,Tryz.ntmps4
 go_wp2_with fail
 refine HL.mono ?_
 rintro e w1 ⟨⟨b,rfl,hb⟩,hk1⟩
 have HK1:=hid hk1
 have HB:=hid hb
 clear hk1 hb HL
 cases b
 case true=>
  have HW:=awake14 w1 (HX.out.kept HK1.out (fun f=>f))
  go_wp2_with fail
  refine HW.mono ?_
  rintro e w2 ⟨rfl,hk2⟩
  have HK2:=hid (Same.trans HK1.out hk2)
  clear hk2 HW
  go_wp2_with fail
  go_ret
  exact⟨rfl,HK2.out⟩
 case false=>
  have HN:Hid (n+m+(wrsOf14 As).length≤4096):=hid (HB.out rfl)
  by_cases hc:ckL bx0 0 0 As=0
  case neg=>
   have HC:=hid hc
   have HT:=tnew_bad w1 ao n c As 7 (arc_same HA.out HK1.out) (HX.out.kept HK1.out (fun f=>f)) (by have:=HN.out;omega) (.inr (.inr hc))
   clear hc
   go_wp2_with fail
   refine HT.mono ?_
   rintro e w2 ⟨rfl,hk2⟩
   have HK2:=hid (Same.trans HK1.out hk2)
   have HR:=hid (rnew14_bad w2 ao n c As 7 (arc_same HA.out HK2.out) (by have:=HN.out;omega) (fun e=>absurd e HC.out) (.inr (.inr HC.out)))
   clear hk2 HT
   go_wp2_with fail
   refine HR.out.mono ?_
   rintro e w3 ⟨rfl,hk3⟩
   have HK3:=hid (Same.trans HK2.out hk3)
   have HW:=hid (awake14 w3 (HX.out.kept HK3.out (fun f=>f)))
   clear hk3
   go_wp2_with fail
   refine HW.out.mono ?_
   rintro e w4 ⟨rfl,hk4⟩
   have HK4:=hid (Same.trans HK3.out hk4)
   clear hk4
   go_wp2_with fail
   go_ret
   exact⟨rfl,HK4.out⟩
  case pos=>
   have HT:=init14 HX.out HK1.out ao n c As 7 HA.out (by have:=HN.out;omega) (by decide) hc (by have:=HN.out;omega)
   clear hc
   go_wp2_with fail
   refine HT.mono ?_
   rintro e w2 ⟨p,rfl,hk2,hn2⟩
   have HR:=hid (hn2 w2 (Kept.refl _ _))
   clear hk2 hn2 HT
   go_wp2_with fail
   refine HR.out.mono ?_
   rintro e w3 ⟨r,rfl,hb3⟩
   have HB3:=hid hb3
   obtain⟨W,hW⟩:∃x,x=(wrsOf14 As).length:=⟨_,rfl⟩
   rw[←hW]at HB3 HN
   clear hb3 hW
   go_wp2_with fail
   go_loopg [9] m (fun q z wr=>∃j:Nat,m-j≤q∧j≤m∧z=.int .i64 (j:Nat)∧Hid (Bth w p r (W+j) wr))
   case atStart=>exact⟨0,by omega,by omega,rfl,HB3⟩
   case round=>
    obtain⟨j,hq,hjl,rfl,HI⟩:=hrel
    by_cases hlt:j<m
    ·have hli:decide (j<m)=true:=decide_eq_true hlt
     have hli2:(j:Int)<(m:Int):=by omega
     obtain⟨sb,so',o,he,_,ho,c0,c1,c2,c3,c4,c5⟩:=(HS.out.kept otE_ok HI.out.sm (fun _ _ _ f=>f)).at6 j hlt
     subst he
     have HC:Hid (Calls Tryz.prog 12 #[.pointer (some ⟨p,0,none⟩),.pointer (some ⟨r,0,none⟩),.agg #[.int .i64 o.kind,.int .i64 o.num,.string o.tn,.string o.ar,.string o.en,.string o.dt]] wr fun e w'=>e=.returned (.bool true)∧Bth w p r (W+j+1) w'):=hid (step14 HI.out (by have:=HN.out;omega) HX.out o (HD.out o (List.mem_of_getElem? ho)))
     have hiw:IntKind.i64.wrap ((j:Int)+1)=((j+1:Nat):Int):=by have:=HN.out;rw[IntKind.wrap_i64];omega
     clear ho
     go_wp2_with fail
     refine HC.out.mono ?_
     rintro e w6 ⟨rfl,hb6⟩
     have HB6:=hid hb6
     clear hb6 c0 c1 c2 c3 c4 c5
     go_wp2_with fail
     go_roundg (gk-1)
     case measure=>omega
     exact⟨j+1,by omega,by omega,by go_num,HB6⟩
    ·have hli:decide (j<m)=false:=decide_eq_false hlt
     have HW:=hid (awake14 wr (HX.out.kept HI.out.sm (fun f=>f)))
     go_wp2_with fail
     refine HW.out.mono ?_
     rintro e w6 ⟨rfl,hk6⟩
     have HB6:=hid (HI.out.same hk6)
     clear hk6
     go_wp2_with fail
     refine(end14 HB6.out (by have:=HN.out;omega) HX.out).mono ?_
     rintro e w7 ⟨rfl,hb7⟩
     have HB7:=hid hb7
     clear hb7
     go_wp2_with fail
     refine(end1014 HB7.out (by have:=HN.out;omega) HX.out).mono ?_
     rintro e w8 ⟨rfl,hb8⟩
     have HB8:=hid hb8
     clear hb8
     go_wp2_with fail
     go_ret
     exact⟨rfl,HB8.out.sm⟩

theorem txnRuns_all(a0:Option Addr)(len0 cap0:Nat)(As:List Ad)(a1:Option Addr)(len1 cap1:Nat)(L1:List Ot)(W:World)(hl0:ArcI W (fun j=>j<W.heap.size) (.slice a0 len0 cap0) As)(hn0:len0≤reachBytes)(hd0:∀x∈As,x.n≤reachBytes)(hl1:SrcC 6 otE W (fun j=>j<W.heap.size) (.slice a1 len1 cap1) L1)(hn1:len1≤reachBytes)(hd1:∀o∈L1,o.dt.size≤reachBytes)(hT:Mxl W):
  Calls Tryz.prog 4 #[.slice a0 len0 cap0,.slice a1 len1 cap1] W fun e W'=>e=.returned (.bool true)∧Below W.heap.size W W':=
 (runs14 W hT a0 len0 cap0 As hl0 a1 len1 cap1 L1 hl1 ⟨Nat.le_trans hn0 (by decide),Nat.le_trans hn1 (by decide),fun x hx=>Nat.le_trans (hd0 x hx) (by decide)⟩ (fun o ho=>Nat.le_trans (hd1 o ho) (by decide))).mono fun _ _ ⟨he,hk⟩=>⟨he,Kept.below hk (Nat.le_refl _) (fun _ _ f=>f)⟩

end Go.Proofs.YtcfociogljhbiaaGreatDoor
