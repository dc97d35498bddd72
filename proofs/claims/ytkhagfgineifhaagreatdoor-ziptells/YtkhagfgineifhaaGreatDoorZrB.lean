import Derived.Test.YtkhagfgineifhaaGreatDoorZrA
import Derived.Test.YtkhagfgineifhaaGreatDoorZrM
import Derived.Test.YtkhagfgineifhaaGreatDoorZqL
import Derived.Test.YtkhagfgineifhaaGreatDoorLAwake
set_option maxHeartbeats 400000
set_option maxRecDepth 100000
namespace Go.Proofs.YtkhagfgineifhaaGreatDoor
open Go.RowKit
theorem Row.low8{w:World}{v:Value}{bs:List Nat}(h:Row w v bs):Src w (λk=>k<w.heap.size) v bs:=(Src.ofRow h).mono (λ_ e=>(World.ownsRow.lt h _ e).2)
theorem Row.shape8{w:World}{v:Value}{bs:List Nat}(h:Row w v bs):∃a c,v=.slice a bs.length c/\bs.length<=c/\(bs≠[]->∃g,a=some ⟨g,0,none⟩/\∀j (hj:j<bs.length),w.cell? ⟨g,j,none⟩=some (.int .u8 (bs[j]:Nat))):=by
 obtain⟨ao,cap,e,hc⟩:=Src.ofRow h;have h2:=h.2;rcases h2 with⟨e2,h3⟩ | ⟨g,eS,cur,e2,_,_,h4,_⟩
 ·refine⟨none,0,by rw[e2,h3],by omega,λhb=>absurd (List.eq_nil_of_length_eq_zero h3) hb⟩
 ·refine⟨some ⟨g,0,none⟩,eS,e2,h4,λhb=>⟨g,rfl,λj hj=>?_⟩⟩;obtain⟨b,o,e5,_,h6⟩:=hc hb;rw[e2]at e;simp only[Value.slice.injEq]at e;rw[e5]at e;simp only[Option.some.injEq,Addr.mk.injEq,and_true]at e;obtain⟨⟨rfl,rfl⟩,_⟩:=e;have:=h6 j hj;simpa using this
theorem rp(w:World)(x0 x1 x2 x3:ByteArray):Ents (w.alloc (.cells #[.string x0,.string x1,.string x2,.string x3] 42)) (λ_=>True) (some ⟨w.heap.size,0,none⟩) 2 (λj=>if j=0 then⟨x0,x1⟩ else⟨x2,x3⟩):=by
 have hb:=Blk.new w #[.string x0,.string x1,.string x2,.string x3] 42;intro j hj;refine⟨w.heap.size,0,rfl,trivial,?_⟩
 match j,hj with
 | 0,_=>exact⟨hb.cell 0,hb.cell 1⟩
 | 1,_=>exact⟨hb.cell 2,hb.cell 3⟩
theorem dq(v n:Nat):∀b∈aR v n,b<256:=by
 induction n generalizing v with
 | zero=>intro b hb;simp[aR]at hb
 | succ n ih=>
  intro b hb;rw[aR]at hb;rcases List.mem_append.1 hb with hb | hb
  ·exact ih _ b hb
  ·simp only[List.mem_cons,List.not_mem_nil,or_false]at hb;omega
theorem tv(m:Mk):∀b∈im m,b<256:=by intro b hb;unfold im at hb;simp only[List.mem_append]at hb;rcases hb with h | h | h | h | h | h | h | h | h | h<;>exact dq _ _ b h
theorem Da{L:List It}(h:∀x∈L,(∀b∈x.lab.name,b<256)/\∀b∈x.bytes,b<256):∀b∈bT L,b<256:=by
 have hp:∀b∈aN L,b<256:=by
  intro b hb;obtain⟨x,hx,hb⟩:=List.mem_flatMap.1 hb;unfold lk ig at hb;simp only[List.mem_append]at hb;rcases hb with(h1 | h1 | h1) | h1
  ·exact dq _ _ b h1
  ·exact tv _ b h1
  ·exact(h x hx).1 b h1
  ·exact(h x hx).2 b h1
 have hr:∀(at':Nat) (L:List It),(∀x∈L,(∀b∈x.lab.name,b<256)/\∀b∈x.bytes,b<256)->∀b∈bz at' L,b<256:=by
  intro at' L
  induction L generalizing at' with
  | nil=>intro _ b hb;simp[bz]at hb
  | cons x r ih=>
   intro h b hb;rw[bz]at hb;rcases List.mem_append.1 hb with hb | hb
   ·unfold k9 at hb;simp only[List.mem_append]at hb;rcases hb with h1 | h1 | h1 | h1 | h1 | h1 | h1 | h1 | h1
    ·exact dq _ _ b h1
    ·exact dq _ _ b h1
    ·exact tv _ b h1
    ·exact dq _ _ b h1
    ·exact dq _ _ b h1
    ·exact dq _ _ b h1
    ·exact dq _ _ b h1
    ·exact dq _ _ b h1
    ·exact(h x (by simp)).1 b h1
   ·exact ih _ (λy hy=>h y (by simp[hy])) b hb
 intro b hb;unfold bT at hb;simp only[List.mem_append]at hb;rcases hb with h1 | h1 | h1
 ·exact hp b h1
 ·exact hr 0 L h b h1
 ·unfold eO at h1;simp only[List.mem_append]at h1;rcases h1 with h | h | h | h | h | h | h | h<;>exact dq _ _ b h
theorem D9{data bs:List Nat}(h:PDef data bs)(hb:∀b∈data,b<256)(hl:data.length<=16384):∀b∈bs,b<256:=by
 obtain⟨x2,x3,rfl,h2,h3⟩:=h;have hs:∀b∈bE data,b<256:=by
  intro b hx;unfold bE at hx;simp only[List.mem_append,List.mem_cons,List.not_mem_nil,or_false]at hx;rcases hx with(rfl | rfl | rfl | rfl | rfl) | h
  ·omega
  ·omega
  ·omega
  ·omega
  ·omega
  ·exact hb b h
 have Lw:∀a c:List Nat,(∀b∈a,b<256)->(∀b∈c,b<256)->∀b∈bX a c,b<256:=by
  intro a c ha hc b hx;unfold bX at hx;split at hx
  ·exact hc b hx
  ·exact ha b hx
 exact Lw _ _ (Lw _ _ hs h2.2) h3.1.2
theorem ru{E:Nat->En}{len:Nat}{L:List It}(h:lD E len L)(hc:fT E len=0):∀b∈bT L,b<256:=by
 refine Da (λx hx=>?_);obtain⟨j,hj,rfl⟩:=List.getElem_of_mem hx;obtain⟨bs,hp,e⟩:=h.2 j L[j] (List.getElem?_eq_getElem hj);have h9:=(kD hc).2 j (by rw[<-h.1];exact hj);rw[e];refine⟨λb hb=>pT _ b hb,λb hb=>?_⟩;have hb:b∈d8 (E j) bs:=hb;unfold d8 at hb;split at hb
 ·exact D9 hp (pT _) (by rw[dX];omega) b hb
 ·exact pT _ b hb
theorem gQ(w:World)(hx:Mxl w)(hT:Tab w):
  Calls Tryz.prog 5 #[] w λe w'=>e=.returned (.bool true)/\Same w w':=by
 have HX:Hid (Mxl w):=hx;have HT:Hid (Tab w):=hT;have H1:=kr w none 0 0 I3 (λj hj=>by omega) (Nat.le_refl _) hx hT rfl;clear hx hT;go_enter Tryz.func5,Tryz.ntmps5;go_wp2_with fail;refine H1.mono ?_;rintro e w1 ⟨v1,L1,rfl,hf1,hi1⟩;rw[Mf hi1]at hf1;obtain⟨a1,c1,fA,_,hbz⟩:=hf1.row.shape8;obtain⟨g1,LG,hb1⟩:=hbz (by decide +kernel);clear hbz;subst LG;have kY:(eO 0 0 0).length=22:=rfl;rw[kY]at fA;subst fA;have HR1:Hid (Row w1 (.slice (some ⟨g1,0,none⟩) 22 c1) (eO 0 0 0)):=hid hf1.row;have HC1:Hid (w1.cell? ⟨g1,0,none⟩=some (.int .u8 80)):=hid (hb1 0 (by decide +kernel));have HK1:Hid (Same w w1):=hid hf1.kept;obtain⟨W2,lN⟩:∃W,W=w1.alloc (.cells #[.string ⟨#[97]⟩,.string ⟨#[111,110,101]⟩,.string ⟨#[98,47,99]⟩,.string ⟨#[116,119,111]⟩] 42):=⟨_,rfl⟩
 have HKW2:Hid (Same w1 W2):=hid (by rw[lN];exact(Kept.refl _ w1).alloc _);have H2:=kr W2 (some ⟨w1.heap.size,0,none⟩) 2 2 I3 (by rw[lN];exact rp w1 _ _ _ _) (Nat.le_refl _) (HX.out.kept (Same.trans HK1.out HKW2.out) (λf=>f)) (HT.out.kept (Same.trans HK1.out HKW2.out) (λf=>f)) pF;clear H1 hf1 hi1 hb1 kY;go_wp2_with fail;rw[<-lN];clear lN;refine H2.mono ?_;rintro e w3 ⟨v3,L3,rfl,hf3,Ig⟩;obtain⟨LL,Fc,Ns⟩:=JF Ig;have MO:=ru Ig pF;have P5:=kw Ig pF;obtain⟨F,hF⟩:∃F,F=bT L3:=⟨_,rfl⟩
 rw[<-hF]at hf3 Fc Ns MO P5;obtain⟨a3,c3,sk,Iy,_⟩:=hf3.row.shape8;obtain⟨n3,hn3⟩:∃n,n=F.length:=⟨_,rfl⟩
 rw[<-hn3]at sk Iy P5;subst sk;have HK3:Hid (Same w1 w3):=hid (Same.trans HKW2.out hf3.kept);have H3:=vK w3 a3 n3 c3 F hf3.row.low8 hn3 MO Iy (by omega) (HX.out.kept (Same.trans HK1.out HK3.out) (λf=>f)) (λL hL=>UnpOk.zero w3 L (by rw[Fc]at hL;simp only[Except.ok.injEq]at hL;rw[<-hL];exact LL));rw[Ns]at H3;clear H2 hf3 Ig LL Fc Ns MO Iy hF hn3;go_wp2_with fail;refine H3.mono ?_;intro e w4 h4;obtain⟨a4,n4,c4,rfl,hr4,hn4⟩:=h4.2.1 _ rfl;have hn4:n4=2:=hn4;subst hn4;have HK4:Hid (Same w1 w4):=hid (Same.trans HK3.out h4.2.2);have HR4:Hid (RowC w3.heap.size 42 2 yL w4 (.slice a4 2 c4) ([(sb a8,sb GI),(sb NC,sb Hu)].map mS)):=hr4;obtain⟨W5,KP⟩:∃W,W=w4.alloc (.cells #[.string ⟨#[97]⟩,.string ⟨#[]⟩,.string ⟨#[97]⟩,.string ⟨#[]⟩] 42):=⟨_,rfl⟩
 have HKW5:Hid (Same w1 W5):=hid (Same.trans HK4.out (by rw[KP];exact(Kept.refl _ w4).alloc _));have HKW45:Hid (Same w4 W5):=hid (by rw[KP];exact(Kept.refl _ w4).alloc _);have Uz:(λj=>if j=0 then(⟨⟨#[97]⟩,⟨#[]⟩⟩:En) else⟨⟨#[97]⟩,⟨#[]⟩⟩)=Qi:=by funext j;unfold Qi a8 Le;split<;>rfl
 have H5:=qJ W5 (some ⟨w4.heap.size,0,none⟩) 2 2 Qi (by rw[KP,<-Uz];exact rp w4 _ _ _ _) (by decide) (Nat.le_refl _) (HX.out.kept (Same.trans HK1.out HKW5.out) (λf=>f)) (by rw[Bh];decide);rw[Bh]at H5;clear H3 h4 hr4 Uz;go_wp2_with fail;rw[<-KP];clear KP;refine H5.mono ?_;rintro e w6 ⟨rfl,hk6⟩;have HK6:Hid (Same w1 w6):=hid (Same.trans HKW5.out hk6);have HK46:Hid (Same w4 w6):=hid (Same.trans HKW45.out hk6);have H6:=DH w6 _ _ (eO 0 0 0) (Src.ofRow (HR1.out.kept HK6.out (λ_ _ f=>f))) (by decide +kernel);rw[show(eO 0 0 0).length=22 from rfl]at H6;clear H5 hk6;go_wp2_with fail;refine H6.mono ?_;rintro e w7 ⟨g7,rfl,Lh,dk,Um⟩;have HK7:Hid (Same w6 w7):=dk;have HR7:Hid (Row w7 (.slice (some ⟨g7,0,none⟩) 22 23) (eO 0 0 0)):=hid (Row.cut Lh);have HN7:Hid (w6.heap.size<=g7):=Um;clear H6 Lh dk Um;go_wp2_with (at_builtin;refine bi _ rfl (.tmp 36) (.tmp 37) rfl _ (eO 0 0 0) rfl (HR7.out.kept (show Same _ _ from(Kept.refl _ _).alloc _) (λ_ _ f=>f)) _ _ [0] rfl (λn c e=>by cases e) (J3 w7 [0] 1 rfl) (by decide +kernel) ?_;intro v8 w8 hr8 Lr OM;have HR8:Hid (Row w8 v8 (eO 0 0 0++[0])):=hr8;have HK8:Hid (Same w6 w8):=hid ((Same.trans HK7.out (show Same w7 (w7.alloc (.cells #[.int .u8 0] 5)) from(Kept.refl _ _).alloc _)).then ((Kept.refl (λk=>(Value.slice (some ⟨g7,0,none⟩) 22 23).ownBlock=some k) _).grown Lr (λk e=>.inl e)) (λx hx e=>by have:=HN7.out;simp only[Value.ownBlock,Option.some.injEq]at e;omega));obtain⟨T7,c8,KW,CC,_⟩:=hr8.shape8;have KW:v8=.slice T7 23 c8:=KW;have CC:23<=c8:=CC;subst KW;clear hr8 Lr OM);have H9:=qX w8 T7 23 c8 (eO 0 0 0++[0]) HR8.out.low8 rfl (by decide +kernel) CC (by decide) (HX.out.kept (Same.trans HK1.out (Same.trans HK6.out HK8.out)) (λf=>f));rw[Mm]at H9;refine H9.mono ?_;intro e w9 h9;obtain rfl:=h9.1 81 rfl;have HK9:Hid (Same w6 w9):=hid (Same.trans HK8.out h9.2.2);clear H9 h9 CC;have b0:w9.cell? ⟨g1,0,none⟩=some (.int .u8 80):=(Same.trans HK6.out HK9.out).cell HC1.out (λf=>f);obtain⟨Rp,K3⟩:∃W,W=w9.alloc (.cells #[.string ⟨#[97]⟩,.string ⟨#[111,110,101]⟩,.string ⟨#[98,47,99]⟩,.string ⟨#[116,119,111]⟩] 42):=⟨_,rfl⟩
 have HKW10:Hid (Same w9 Rp):=hid (by rw[K3];exact(Kept.refl _ w9).alloc _);have Ih:=HR4.out.kept (Same.trans HK46.out (Same.trans HK9.out HKW10.out)) (λ_ _ f=>f);have MH:∀j,j<2->(([(sb a8,sb GI),(sb NC,sb Hu)].map mS).getD j default)=I3 j:=by
  intro j hj
  match j,hj with
  | 0,_=>show mS (sb a8,sb GI)=_;unfold mS;simp only[oB];rfl
  | 1,_=>show mS (sb NC,sb Hu)=_;unfold mS;simp only[oB];rfl
 have LJ:Ents Rp (λ_=>True) a4 2 I3:=by intro j hj;obtain⟨b,o,h1,h2,h3,h4⟩:=Ents.ofRow Ih rfl j hj;exact⟨b,o,h1,h2,by rw[<-MH j hj];exact h3,by rw[<-MH j hj];exact h4⟩
 have H10:=zS Rp a4 (some ⟨w9.heap.size,0,none⟩) 2 c4 2 I3 _ _ LJ (by rw[K3];exact rp w9 _ _ _ _) (by decide);clear Ih MH LJ;go_wp2_with fail;rw[<-K3];clear K3;refine H10.mono ?_;rintro e Uv ⟨rfl,Ox⟩;have HK11:Hid (Same w6 Uv):=hid (Same.trans HK9.out (Same.trans HKW10.out Ox));have H11:=mE Uv ⟨#[97,47,98,46,116,120,116]⟩ (HX.out.kept (Same.trans HK1.out (Same.trans HK6.out HK11.out)) (λf=>f));rw[show eZ (sb ⟨#[97,47,98,46,116,120,116]⟩)=true by decide +kernel]at H11;clear H10 Ox;go_wp2_with fail;refine H11.mono ?_;rintro e TC ⟨rfl,hk12⟩;have HK12:Hid (Same w6 TC):=hid (Same.trans HK11.out hk12);have H12:=mE TC ⟨#[97,47,47,98]⟩ (HX.out.kept (Same.trans HK1.out (Same.trans HK6.out HK12.out)) (λf=>f));rw[show eZ (sb ⟨#[97,47,47,98]⟩)=false by decide +kernel]at H12;clear H11 hk12;go_wp2_with fail;refine H12.mono ?_;rintro e Yg ⟨rfl,P8⟩;have HK13:Hid (Same w Yg):=hid (Same.trans HK1.out (Same.trans HK6.out (Same.trans HK12.out P8)));clear H12 P8;go_wp2_with fail;go_ret;exact⟨rfl,HK13.out⟩
end Go.Proofs.YtkhagfgineifhaaGreatDoor
