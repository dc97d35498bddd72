import Derived.Deep.RegionHeld3
import Derived.Lib.AppendStr
import Derived.Test.YtllcnlnbpikhdaaGreatDoorJ22
set_option maxHeartbeats 400000
set_option maxRecDepth 100000
namespace Go.Proofs.YtllcnlnbpikhdaaGreatDoor
open Go.RowKit
theorem Ck(cs:List Nat)(h:∀b∈cs,b<256):Lib.strCells (bF cs)=cs.map bj:=by unfold Lib.strCells bF;simp only[List.map_map];refine List.map_congr_left (λb hb=>?_);have:=h b hb;simp only[Function.comp_apply,UInt8.toNat_ofNat',bj];congr 1;omega
theorem Br{w w':World}(h:Same w.drew w'):Same w w':=⟨h.os,h.tape,h.output,h.size,h.block⟩
theorem io{ops:Array Oper}{rest:List Oper}{o:Oper}{a:Act}{Q:Exit→Act→World→Prop}(w:World)(jL:o.guard=none)(s x:Operand)
  (ho:o.op=.call {callee:=.builtin .append,args:=#[s,x],argTypes:=#[22,9]})
  (w0:World) (v:Value) (bs:List Nat) (hs:a.eval s=v) (hf:Fresh w0 w v bs) (cs:List Nat) (hx:a.eval x=.string (bF cs)) (hc:∀b∈cs,b<256) (ag:bs.length+cs.length<=1000000000000)
  (h:∀v' w',Fresh w0 w' v' (bs++cs)->wpList Tryz.prog ops Q rest (a.put o.dst v') w'):wpList Tryz.prog ops Q (o::rest) a w:=by
 obtain⟨i0,hi,iq,iG,fW⟩:=info_parts Tryz.info8;have cX:=iJ cs;have Hv:w.ownsRow w0.heap.size 5 1 v bs.length (bs.map bj):=by
  refine⟨hf.row.1,?_⟩;rcases hf.row.2 with h1 | ⟨g,cap,cur,rfl,h0,h2⟩
  ·exact .inl h1
  ·exact .inr ⟨g,cap,cur,rfl,hf.new g rfl,h2⟩
 refine Lib.wpList_append_own_string (P:=Tryz.prog) w jL s x 22 9 ho w0.heap.size 5 i0 Tryz.underlying22 Tryz.underlying9 hi iq iG fW v bs.length (bs.map bj) hs Hv (bF cs) hx (by simp only[maxLen];omega) (by omega) hf.kept.size ?_;intro v' w' h1 h2 _;refine h v' w' ⟨?_,hf.kept.grown h2 (λk e=>.inr (hf.new k e)),λk e=>(World.ownsRow.lt h1 k e).1⟩;rw[Ck cs hc,cX,<-List.map_append]at h1;have h3:w'.ownsRow 0 5 1 v' (bs.length+cs.length) ((bs++cs).map bj):=by
  refine⟨h1.1,?_⟩;rcases h1.2 with h4 | ⟨g,cap,cur,h5,_,h6⟩
  ·exact .inl h4
  ·exact .inr ⟨g,cap,cur,h5,Nat.zero_le _,h6⟩
 show w'.ownsRow 0 5 1 v' (bs++cs).length ((bs++cs).map bj);rw[List.length_append];exact h3
theorem Fi(w:World)(m:Mk)(hm:gE m)(Eq:∀b∈m.name,b<256):
  Calls Tryz.prog 19 #[.agg (k7 m)] w λe w'=>∃v',e=.returned v'/\Fresh w w' v' (jC m):=by
 obtain⟨W1,hW1⟩:∃W,W=w.alloc (.cells #[.int .u16 (m.way:Nat),.int .u32 (m.sum:Nat),.int .u32 (m.packed:Nat),.int .u32 (m.size:Nat),.string (bF m.name)] 47):=⟨_,rfl⟩
 obtain⟨mb,lZ⟩:∃b,b=w.heap.size:=⟨_,rfl⟩
 have HK1:Hid (Same w W1):=hid (by rw[hW1];exact(Kept.refl _ w).alloc _);have HL1:Hid (LabBk W1 mb m):=hid (by rw[hW1,lZ];exact Blk.new w _ _);have HM:Hid (gE m/\∀b∈m.name,b<256):=hid ⟨hm,Eq⟩;have H1:=λwx=>kG wx (.slice none 0 0) (λ_=>False) [] ⟨none,0,rfl,λh=>absurd rfl h⟩ 67324752 rfl (by decide) (by simp)
 clear hm Eq;unfold k7;go_enter Tryz.func19,Tryz.ntmps19;go_wp2_with fail;rw[<-hW1,<-lZ];clear hW1 lZ;obtain⟨c0,c1,c2,c3,c4⟩:=HL1.out.cells;go_region_held3 (λw'=>w'.cell? ⟨mb,0,none⟩=some (.int .u16 (m.way:Nat))/\w'.cell? ⟨mb,1,none⟩=some (.int .u32 (m.sum:Nat))/\w'.cell? ⟨mb,2,none⟩=some (.int .u32 (m.packed:Nat))/\w'.cell? ⟨mb,3,none⟩=some (.int .u32 (m.size:Nat))/\w'.cell? ⟨mb,4,none⟩=some (.string (bF m.name)))
  (first
   | (go_split_ands;exact⟨hf3.kept.cell (by assumption) (λf=>f),hf3.kept.cell (by assumption) (λf=>f),hf3.kept.cell (by assumption) (λf=>f),hf3.kept.cell (by assumption) (λf=>f),hf3.kept.cell (by assumption) (λf=>f)⟩)
   | (go_split_ands;exact⟨hf2.kept.cell (by assumption) (λf=>f),hf2.kept.cell (by assumption) (λf=>f),hf2.kept.cell (by assumption) (λf=>f),hf2.kept.cell (by assumption) (λf=>f),hf2.kept.cell (by assumption) (λf=>f)⟩)
   | go_keep)
  (first
   | (go_at_call 34;refine(H1 _).mono ?_;rintro e w2 ⟨v2,rfl,hf2⟩)
   | (go_at_call 35;refine(mn _ v2 _ _ m (Src.kept (Src.ofRow hf2.row) (by first | exact Kept.refl (λ_=>False) _ | exact(Kept.refl (λ_=>False) _).drew | exact(Kept.refl (λ_=>False) _).drewN _) (λ_ _ _ f=>f)) HM.out.1 (by simp[aA])).mono ?_;rintro e w3 ⟨v3,rfl,hf3⟩))
 all_goals
  have HF3:Hid (Fresh w w3 v3 (aQ 67324752 4++gX m)):=hid ⟨by simpa using hf3.row,Same.trans HK1.out (Same.trans (by first | exact hf2.kept | exact Br hf2.kept) hf3.kept),λk e=>Nat.le_trans (Same.trans HK1.out (by first | exact hf2.kept | exact Br hf2.kept)).size (hf3.new k e)⟩;have d4:w3.cell? ⟨mb,4,none⟩=some (.string (bF m.name)):=(by go_split_ands;assumption);obtain⟨a3,p3,pc,_⟩:=HF3.out.row.shape;generalize (aQ 67324752 4++gX m).length=n3 at pc;subst pc;clear hf2 hf3 c0 c1 c2 c3 c4;go_wp2_with (at_builtin;refine io _ rfl (.tmp 7) (.tmp 9) rfl w _ _ rfl HF3.out m.name rfl HM.out.2 (by have:=HM.out.1.name;simp[aA,gX];omega) ?_);intro v4 w4 hf4;have HF4:Hid (Fresh w w4 v4 (jC m)):=hid (by unfold jC;rw[<-List.append_assoc];exact hf4);clear hf4;go_wp2_with fail;go_ret;exact⟨_,rfl,HF4.out⟩
theorem Fresh.then8{w w1 w2:World}{v v':Value}{bs cs:List Nat}(h:Fresh w w1 v bs)(h2:Fresh w1 w2 v' cs):Fresh w w2 v' cs:=
 ⟨h2.row,Same.trans h.kept h2.kept,λk e=>Nat.le_trans h.kept.size (h2.new k e)⟩
theorem Fresh.base8{w w1 w2:World}{v':Value}{cs:List Nat}(h:Same w w1)(h2:Fresh w1 w2 v' cs):Fresh w w2 v' cs:=
 ⟨h2.row,Same.trans h h2.kept,λk e=>Nat.le_trans h.size (h2.new k e)⟩
theorem tM(w wk:World)(v:Value)(bs:List Nat)(h:Fresh w wk v bs)(vs:List Nat)(n:Nat)(hn:n=vs.length)(hv:∀x∈vs,x<65536)(hl:bs.length≤10000000)(h1:1≤n)(h2:n≤100):
  Calls Tryz.prog 33 #[v,.slice (some ⟨wk.heap.size,0,none⟩) n n] (wk.alloc (.cells (vs.map (λx=>Value.int .u16 (x:Nat))).toArray 45)) λe w'=>∃v',e=.returned v'/\Fresh w w' v' (bs++gw 2 vs):=by
 have hk:Same wk (wk.alloc (.cells (vs.map (λx=>Value.int .u16 (x:Nat))).toArray 45)):=(Kept.refl _ wk).alloc _;refine(lH _ v _ bs wk.heap.size vs n hn ((Src.ofRow h.row).kept hk (λ_ _ _ f=>f)) (jT .u16 wk vs 45) hv hl h2).mono ?_;rintro e w' ⟨v',rfl,_,_,hf⟩;exact⟨v',rfl,Fresh.base8 (Same.trans h.kept hk) (hf h1)⟩
theorem Fl(w wk:World)(v:Value)(bs:List Nat)(h:Fresh w wk v bs)(vs:List Nat)(n:Nat)(hn:n=vs.length)(hv:∀x∈vs,x<4294967296)(hl:bs.length≤10000000)(h1:1≤n)(h2:n≤100):
  Calls Tryz.prog 36 #[v,.slice (some ⟨wk.heap.size,0,none⟩) n n] (wk.alloc (.cells (vs.map (λx=>Value.int .u32 (x:Nat))).toArray 35)) λe w'=>∃v',e=.returned v'/\Fresh w w' v' (bs++gw 4 vs):=by
 have hk:Same wk (wk.alloc (.cells (vs.map (λx=>Value.int .u32 (x:Nat))).toArray 35)):=(Kept.refl _ wk).alloc _;refine(qI _ v _ bs wk.heap.size vs n hn ((Src.ofRow h.row).kept hk (λ_ _ _ f=>f)) (jT .u32 wk vs 35) hv hl h2).mono ?_;rintro e w' ⟨v',rfl,_,_,hf⟩;exact⟨v',rfl,Fresh.base8 (Same.trans h.kept hk) (hf h1)⟩
theorem gF(m:Mk):(gX m).length=26:=by simp[gX,aA]
theorem IV(m:Mk)(p:Nat):aQ 33639248 4++gw 2 [20]++gX m++gw 2 [0,0,0]++gw 4 [0,p]++m.name=kO m p:=by simp[gw,kO]
theorem yz(w:World)(m:Mk)(p:Nat)(hm:gE m)(Eq:∀b∈m.name,b<256)(hp:p<4294967296):
  Calls Tryz.prog 18 #[.agg (k7 m),.int .i64 (p:Nat)] w λe w'=>∃v',e=.returned v'/\Fresh w w' v' (kO m p):=by
 obtain⟨W1,hW1⟩:∃W,W=w.alloc (.cells #[.int .u16 (m.way:Nat),.int .u32 (m.sum:Nat),.int .u32 (m.packed:Nat),.int .u32 (m.size:Nat),.string (bF m.name)] 47):=⟨_,rfl⟩
 obtain⟨mb,lZ⟩:∃b,b=w.heap.size:=⟨_,rfl⟩
 have HK1:Hid (Same w W1):=hid (by rw[hW1];exact(Kept.refl _ w).alloc _);have HL1:Hid (LabBk W1 mb m):=hid (by rw[hW1,lZ];exact Blk.new w _ _);have HM:Hid (gE m/\(∀b∈m.name,b<256)/\p<4294967296):=hid ⟨hm,Eq,hp⟩;have lY:IntKind.u32.wrap (p:Int)=(p:Int):=by rw[IntKind.wrap_u32];omega
 have H1:=λwx=>kG wx (.slice none 0 0) (λ_=>False) [] ⟨none,0,rfl,λh=>absurd rfl h⟩ 33639248 rfl (by decide) (by simp)
 clear hm Eq hp;unfold k7;go_enter Tryz.func18,Tryz.ntmps18;go_wp2_with fail;rw[<-hW1,<-lZ];clear hW1 lZ;refine(H1 _).mono ?_;rintro e w2 ⟨v2,rfl,hf2⟩;have HF2:Hid (Fresh W1 w2 v2 (aQ 33639248 4)):=hid (by simpa using hf2);have H2:=tM W1 w2 v2 _ HF2.out [20] 1 rfl (by decide) (by simp[aA]) (by decide) (by decide);clear hf2 H1;go_wp2_with fail;refine H2.mono ?_;rintro e w3 ⟨v3,rfl,hf3⟩;have HF3:Hid (Fresh W1 w3 v3 (aQ 33639248 4++gw 2 [20])):=hf3;obtain⟨c0,c1,c2,c3,c4⟩:=(HL1.out.kept hf3.kept).cells;have H3:=mn w3 v3 _ _ m (Src.ofRow hf3.row) HM.out.1 (by simp[aA,cD]);unfold k7 at H3;clear hf3 H2 HF2;go_wp2_with fail;refine H3.mono ?_;rintro e w4 ⟨v4,rfl,hf4⟩;have HF4:Hid (Fresh W1 w4 v4 (aQ 33639248 4++gw 2 [20]++gX m)):=hid (HF3.out.then8 hf4);have H4:=tM W1 w4 v4 _ HF4.out [0,0,0] 3 rfl (by decide) (by simp[aA,cD,gF]) (by decide) (by decide);clear hf4 H3 HF3 c0 c1 c2 c3 c4;go_wp2_with fail;refine H4.mono ?_;rintro e w5 ⟨v5,rfl,hf5⟩;have HF5:Hid (Fresh W1 w5 v5 (aQ 33639248 4++gw 2 [20]++gX m++gw 2 [0,0,0])):=hf5;have H5:=Fl W1 w5 v5 _ HF5.out [0,p] 2 rfl (by intro x hx;have:=HM.out.2.2;simp at hx;omega) (by simp[aA,cD,gF]) (by decide) (by decide);clear hf5 H4 HF4;go_wp2_with fail;refine H5.mono ?_;rintro e w6 ⟨v6,rfl,hf6⟩;have HF6:Hid (Fresh w w6 v6 (aQ 33639248 4++gw 2 [20]++gX m++gw 2 [0,0,0]++gw 4 [0,p])):=hid (Fresh.base8 HK1.out hf6);obtain⟨d0,d1,d2,d3,d4⟩:=(HL1.out.kept hf6.kept).cells;obtain⟨a6,p6,oK,_⟩:=hf6.row.shape;generalize (aQ 33639248 4++gw 2 [20]++gX m++gw 2 [0,0,0]++gw 4 [0,p]).length=n6 at oK;subst oK;clear hf6 H5 HF5 d0 d1 d2 d3;go_wp2_with (at_builtin;refine io _ rfl (.tmp 20) (.tmp 22) rfl w _ _ rfl HF6.out m.name rfl HM.out.2.1 (by have:=HM.out.1.name;simp[aA,cD,gF];omega) ?_);intro v7 w7 SX;have HF7:Hid (Fresh w w7 v7 (kO m p)):=hid (by rw[<-IV];exact SX);clear SX;go_wp2_with fail;go_ret;exact⟨_,rfl,HF7.out⟩
theorem IP(n long first:Nat):aQ 101010256 4++gw 2 [0,0,n,n]++gw 4 [long,first]++gw 2 [0]=lM n long first:=by simp[gw,lM]
theorem GH(w:World)(n long first:Nat)(hn:n<65536)(hl:long<4294967296)(hf:first<4294967296):
  Calls Tryz.prog 21 #[.int .i64 (n:Nat),.int .i64 (long:Nat),.int .i64 (first:Nat)] w λe w'=>∃v',e=.returned v'/\Fresh w w' v' (lM n long first):=by
 have hnw:IntKind.u16.wrap (n:Int)=(n:Int):=by rw[IntKind.wrap_u16];omega
 have R5:IntKind.u32.wrap (long:Int)=(long:Int):=by rw[IntKind.wrap_u32];omega
 have Vw:IntKind.u32.wrap (first:Int)=(first:Int):=by rw[IntKind.wrap_u32];omega
 have H1:=kG w (.slice none 0 0) (λ_=>False) [] ⟨none,0,rfl,λh=>absurd rfl h⟩ 101010256 rfl (by decide) (by simp);have HM:Hid (n<65536/\long<4294967296/\first<4294967296):=hid ⟨hn,hl,hf⟩;clear hn hl hf;go_enter Tryz.func21,Tryz.ntmps21;go_wp2_with fail;refine H1.mono ?_;rintro e w2 ⟨v2,rfl,hf2⟩;have HF2:Hid (Fresh w w2 v2 (aQ 101010256 4)):=hid (by simpa using hf2);have H2:=tM w w2 v2 _ HF2.out [0,0,n,n] 4 rfl (by intro x hx;have:=HM.out;simp at hx;omega) (by simp[aA]) (by decide) (by decide);clear hf2 H1;go_wp2_with fail;refine H2.mono ?_;rintro e w3 ⟨v3,rfl,hf3⟩;have HF3:Hid (Fresh w w3 v3 (aQ 101010256 4++gw 2 [0,0,n,n])):=hf3;have H3:=Fl w w3 v3 _ HF3.out [long,first] 2 rfl (by intro x hx;have:=HM.out;simp at hx;omega) (by simp[aA,cD]) (by decide) (by decide);clear hf3 H2 HF2;go_wp2_with fail;refine H3.mono ?_;rintro e w4 ⟨v4,rfl,hf4⟩;have HF4:Hid (Fresh w w4 v4 (aQ 101010256 4++gw 2 [0,0,n,n]++gw 4 [long,first])):=hf4;have H4:=tM w w4 v4 _ HF4.out [0] 1 rfl (by decide) (by simp[aA,cD]) (by decide) (by decide);clear hf4 H3 HF3;go_wp2_with fail;refine H4.mono ?_;rintro e w5 ⟨v5,rfl,hf5⟩;have HF5:Hid (Fresh w w5 v5 (lM n long first)):=hid (by rw[<-IP];exact hf5);clear hf5 H4 HF4;go_wp2_with fail;go_ret;exact⟨_,rfl,HF5.out⟩
end Go.Proofs.YtllcnlnbpikhdaaGreatDoor
