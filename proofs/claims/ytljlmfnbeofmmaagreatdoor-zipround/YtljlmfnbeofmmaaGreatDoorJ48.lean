import Derived.Defers
import Derived.Recover
import Derived.BigQuiet
import Derived.Test.YtljlmfnbeofmmaaGreatDoorJ47
import Derived.Test.YtljlmfnbeofmmaaGreatDoorJ45
set_option maxHeartbeats 4000000
set_option maxRecDepth 100000
namespace Go.Proofs.YtljlmfnbeofmmaaGreatDoor
open Go.RowKit
theorem om(p:Nat)(x:Int)(n:Nat)(w:World)(hc:w.cell? ⟨p,0,none⟩=some (.int .i64 x))(hz:w.frozen? ⟨p,0,none⟩=false):
  CallsD Tryz.prog 49 #[.pointer (some ⟨p,0,none⟩)] (.panicking [{v:=.iface 27 (.int .i64 (n:Nat)),recovered:=false}]) w λe u' w'=>
   e=.returned (.tuple #[])/\u'=.panicking [{v:=.iface 27 (.int .i64 (n:Nat)),recovered:=true}]/\w'=w.setCell ⟨p,0,none⟩ (.int .i64 (n:Nat)):=by
 refine callsD_of_wpS Tryz.func49 rfl λc₀ cs hu=>?_
 have HG:=jt w n;apply wpS_region;simp[wpOpsS,go_sem,recoverD,hu,Tryz.ntmps49];refine HG.mono ?_;rintro e w' ⟨rfl,rfl⟩;simp[go_sem,hc,hz,bodyPostS,results,Tryz.results49]
theorem vQ(p:Nat)(x:Int)(w:World)(hc:w.cell? ⟨p,0,none⟩=some (.int .i64 x))(hz:w.frozen? ⟨p,0,none⟩=false):
  CallsD Tryz.prog 49 #[.pointer (some ⟨p,0,none⟩)] .returning w λe u' w'=>e=.returned (.tuple #[])/\u'=.returning/\w'=w.setCell ⟨p,0,none⟩ (.int .i64 0):=by
 refine callsD_of_wpS Tryz.func49 rfl λc₀ cs hu=>?_
 have HG:=jx w;apply wpS_region;simp[wpOpsS,go_sem,recoverD,hu,Tryz.ntmps49];refine HG.mono ?_;rintro e w' ⟨rfl,rfl⟩;cases c₀;simp_all[go_sem,bodyPostS,results,Tryz.results49]
theorem jm(p:Nat)(x:Int)(n:Nat)(w:World)(hc:w.cell? ⟨p,0,none⟩=some (.int .i64 x))(hz:w.frozen? ⟨p,0,none⟩=false):
  CallsD Tryz.prog 53 #[.pointer (some ⟨p,0,none⟩)] (.panicking [{v:=.iface 27 (.int .i64 (n:Nat)),recovered:=false}]) w λe u' w'=>
   e=.returned (.tuple #[])/\u'=.panicking [{v:=.iface 27 (.int .i64 (n:Nat)),recovered:=true}]/\w'=w.setCell ⟨p,0,none⟩ (.int .i64 (n:Nat)):=by
 refine callsD_of_wpS Tryz.func53 rfl λc₀ cs hu=>?_
 have HG:=jt w n;apply wpS_region;simp[wpOpsS,go_sem,recoverD,hu,Tryz.ntmps53];refine HG.mono ?_;rintro e w' ⟨rfl,rfl⟩;simp[go_sem,hc,hz,bodyPostS,results,Tryz.results53]
theorem wi(p:Nat)(x:Int)(w:World)(hc:w.cell? ⟨p,0,none⟩=some (.int .i64 x))(hz:w.frozen? ⟨p,0,none⟩=false):
  CallsD Tryz.prog 53 #[.pointer (some ⟨p,0,none⟩)] .returning w λe u' w'=>e=.returned (.tuple #[])/\u'=.returning/\w'=w.setCell ⟨p,0,none⟩ (.int .i64 0):=by
 refine callsD_of_wpS Tryz.func53 rfl λc₀ cs hu=>?_
 have HG:=jx w;apply wpS_region;simp[wpOpsS,go_sem,recoverD,hu,Tryz.ntmps53];refine HG.mono ?_;rintro e w' ⟨rfl,rfl⟩;cases c₀;simp_all[go_sem,bodyPostS,results,Tryz.results53]
theorem ff(p:Nat)(x:Int)(n:Nat)(w:World)(hc:w.cell? ⟨p,0,none⟩=some (.int .i64 x))(hz:w.frozen? ⟨p,0,none⟩=false):
  CallsD Tryz.prog 55 #[.pointer (some ⟨p,0,none⟩)] (.panicking [{v:=.iface 27 (.int .i64 (n:Nat)),recovered:=false}]) w λe u' w'=>
   e=.returned (.tuple #[])/\u'=.panicking [{v:=.iface 27 (.int .i64 (n:Nat)),recovered:=true}]/\w'=w.setCell ⟨p,0,none⟩ (.int .i64 (n:Nat)):=by
 refine callsD_of_wpS Tryz.func55 rfl λc₀ cs hu=>?_
 have HG:=jt w n;apply wpS_region;simp[wpOpsS,go_sem,recoverD,hu,Tryz.ntmps55];refine HG.mono ?_;rintro e w' ⟨rfl,rfl⟩;simp[go_sem,hc,hz,bodyPostS,results,Tryz.results55]
theorem vI(p:Nat)(x:Int)(w:World)(hc:w.cell? ⟨p,0,none⟩=some (.int .i64 x))(hz:w.frozen? ⟨p,0,none⟩=false):
  CallsD Tryz.prog 55 #[.pointer (some ⟨p,0,none⟩)] .returning w λe u' w'=>e=.returned (.tuple #[])/\u'=.returning/\w'=w.setCell ⟨p,0,none⟩ (.int .i64 0):=by
 refine callsD_of_wpS Tryz.func55 rfl λc₀ cs hu=>?_
 have HG:=jx w;apply wpS_region;simp[wpOpsS,go_sem,recoverD,hu,Tryz.ntmps55];refine HG.mono ?_;rintro e w' ⟨rfl,rfl⟩;cases c₀;simp_all[go_sem,bodyPostS,results,Tryz.results55]
structure Itv where
 m:Mk
 a:Option Addr
 n:Nat
 c:Nat
instance:Inhabited Itv:=⟨⟨⟨0,0,0,0,[]⟩,none,0,0⟩⟩
def Itv.v(x:Itv):Value:=.slice x.a x.n x.c
def mJ(x:Itv):List Value:=[.int .u16 (x.m.way:Nat),.int .u32 (x.m.sum:Nat),.int .u32 (x.m.packed:Nat),.int .u32 (x.m.size:Nat),.string (bJ x.m.name),.slice x.a x.n x.c]
theorem qJ:dN mJ 6:=⟨λ_=>rfl,λx u hu=>by simp[mJ]at hu;rcases hu with rfl | rfl | rfl | rfl | rfl | rfl<;>rfl,by decide⟩
theorem Tryz.infoItem:(Tryz.prog.info? 78).map (λi=>(i.zero,i.size,i.bytes))=some (some (.agg #[.int .u16 0,.int .u32 0,.int .u32 0,.int .u32 0,.string ⟨#[]⟩,.slice none 0 0]),6,56):=by kernel_rfl
theorem Tryz.infoEntry:(Tryz.prog.info? 34).map (λi=>(i.zero,i.size,i.bytes))=some (some (.agg #[.string ⟨#[]⟩,.string ⟨#[]⟩]),2,32):=by kernel_rfl
def yl(y:En):List Value:=[.string y.n,.string y.d]
theorem G6:dN yl 2:=⟨λ_=>rfl,λx u hu=>by simp[yl]at hu;rcases hu with rfl | rfl<;>rfl,by decide⟩
theorem RowC.at8{α:Type}{B:Nat}{t k:Nat}{enc:α->List Value}(ok:dN enc k){w:World}{v:Value}{xs:List α}(h:RowC B t k enc w v xs)(j:Nat)(hj:j<xs.length):∃g cap,v=.slice (some ⟨g,0,none⟩) xs.length cap/\B<=g/\∀i,i<k->w.cell? ⟨g,j*k+i,none⟩=(enc xs[j])[i]?:=by
 rcases h.2 with⟨_,h0⟩ | ⟨g,cap,cur,hv,hb,_⟩
 ·omega
 ·refine⟨g,cap,hv,hb,λi hi=>?_⟩;have hg:=qZ ok xs j i hj hi;have uM:i<(enc xs[j]).length:=(by rw[ok.len];exact hi);rw[List.getElem?_eq_getElem uM]at hg ⊢;have:=World.ownsRow.cells h (g:=g) (by rw[hv];rfl) (j*k+i) _ hg;rw[cw,Nat.zero_add]at this;exact this
theorem Itms.ofRow{B:Nat}{w:World}{a:Option Addr}{n c:Nat}{xs:List Itv}(h:RowC B 78 6 mJ w (.slice a n c) xs)(hn:n=xs.length):Itms w a n (λj=>(xs.getD j default).m) (λj=>(xs.getD j default).v):=by
 subst hn;intro j hj;obtain⟨g,cap,hv,_,hc⟩:=h.at8 qJ j hj;simp only[Value.slice.injEq]at hv;have e:xs.getD j default=xs[j]:=by rw[List.getD_eq_getElem?_getD,List.getElem?_eq_getElem hj];rfl
 simp only[e];refine⟨g,0,hv.1,?_,?_,?_,?_,?_,?_⟩
 ·have:=hc 0 (by decide);simpa[mJ]using this
 ·have:=hc 1 (by decide);simpa[mJ]using this
 ·have:=hc 2 (by decide);simpa[mJ]using this
 ·have:=hc 3 (by decide);simpa[mJ]using this
 ·have:=hc 4 (by decide);simpa[mJ]using this
 ·have:=hc 5 (by decide);simpa[mJ,Itv.v]using this
structure ItAt(N:Nat)(w:World)(x:Itv)(y:It):Prop where
 lab:x.m=y.lab
 src:Src w (λk=>k<N) (.slice x.a x.n x.c) y.bytes
 len:x.n=y.bytes.length
 byte:∀b∈y.bytes,b<256
 nam:∀b∈y.lab.name,b<256
 ok:gP y.lab
 pk:y.bytes.length=y.lab.packed
 ck:∃a,dy y.lab a=0
 adr:x.a≠none
def Its(N:Nat)(w:World)(xs:List Itv)(L:List It):Prop:=xs.length=L.length/\∀(j:Nat) (x:Itv) (y:It),xs[j]? = some x->L[j]? = some y->ItAt N w x y
theorem Its.nil(N:Nat)(w:World):Its N w [] []:=⟨rfl,λj x y h=>(by simp at h)⟩
theorem ItAt.kept{F:Nat->Prop}{N:Nat}{w w':World}{x:Itv}{y:It}(h:ItAt N w x y)(hk:Kept F w w')(hF:∀k,k<N->¬F k):ItAt N w' x y:=
 ⟨h.lab,h.src.kept hk (λk hk _=>hF k hk),h.len,h.byte,h.nam,h.ok,h.pk,h.ck,h.adr⟩
theorem Its.kept{F:Nat->Prop}{N:Nat}{w w':World}{xs:List Itv}{L:List It}(h:Its N w xs L)(hk:Kept F w w')(hF:∀k,k<N->¬F k):Its N w' xs L:=
 ⟨h.1,λj x y h1 h2=>(h.2 j x y h1 h2).kept hk hF⟩
theorem Its.snoc{N:Nat}{w:World}{xs:List Itv}{L:List It}(h:Its N w xs L){x:Itv}{y:It}(hx:ItAt N w x y):Its N w (xs++[x]) (L++[y]):=by
 refine⟨by simp[h.1],λj x' y' h1 h2=>?_⟩;by_cases hj:j<xs.length
 ·rw[List.getElem?_append_left hj]at h1;rw[List.getElem?_append_left (by rw[<-h.1];exact hj)]at h2;exact h.2 j x' y' h1 h2
 ·rw[List.getElem?_append_right (by omega)]at h1;rw[List.getElem?_append_right (by rw[<-h.1];omega),<-h.1]at h2;have e:j-xs.length=0:=by
   rcases Nat.eq_zero_or_pos (j-xs.length)with e | e
   ·exact e
   ·rw[List.getElem?_eq_none (by simp;omega)]at h1;cases h1
  rw[e]at h1 h2;simp only[List.getElem?_cons_zero,Option.some.injEq]at h1 h2;subst h1;subst h2;exact hx
theorem Its.names{N:Nat}{w:World}{xs:List Itv}{L:List It}(h:Its N w xs L):jV (λj=>(xs.getD j default).m) xs.length=cT L:=by
 unfold jV cT;refine List.ext_getElem (by simp[h.1]) (λj h1 h2=>?_);simp only[List.length_map,List.length_range]at h1 h2;simp only[List.getElem_map,List.getElem_range];have e:xs.getD j default=xs[j]:=by rw[List.getD_eq_getElem?_getD,List.getElem?_eq_getElem h1];rfl
 rw[e,(h.2 j _ _ (List.getElem?_eq_getElem h1) (List.getElem?_eq_getElem h2)).lab]
theorem Its.nam{N:Nat}{w:World}{xs:List Itv}{L:List It}(h:Its N w xs L):∀i,i<xs.length->∀b∈(xs.getD i default).m.name,b<256:=by
 intro j hj;have h2:j<L.length:=by rw[<-h.1];exact hj
 have e:xs.getD j default=xs[j]:=by rw[List.getD_eq_getElem?_getD,List.getElem?_eq_getElem hj];rfl
 have hi:=h.2 j _ _ (List.getElem?_eq_getElem hj) (List.getElem?_eq_getElem h2);rw[e,hi.lab];exact hi.nam
def OpnA(w w':World)(o:Except Nat (List It))(e:Ending):Prop:=
 (∀k,o=.error k->e=aH k)/\(∀L,o=.ok L->∃a n c xs,e=.returned (.slice a n c)/\RowC w.heap.size 78 6 mJ w' (.slice a n c) xs/\Its w.heap.size w' xs L/\n=xs.length/\n<=c/\n<=64)/\Same w w'
theorem OpnA.bad{w w':World}{o:Except Nat (List It)}{e:Ending}{k:Nat}(h:o=.error k)(he:e=aH k)(hk:Same w w'):OpnA w w' o e:=
 ⟨λk' h'=>by rw[h]at h';simp only[Except.error.injEq]at h';subst h';exact he,λL h'=>(by rw[h]at h';cases h'),hk⟩
theorem OpnA.good{w w':World}{o:Except Nat (List It)}{e:Ending}{L:List It}(h:o=.ok L){a:Option Addr}{n c:Nat}{xs:List Itv}(he:e=.returned (.slice a n c))(hr:RowC w.heap.size 78 6 mJ w' (.slice a n c) xs)(hi:Its w.heap.size w' xs L)(hn:n=xs.length)(hc:n<=c)(Ew:n<=64)(hk:Same w w'):OpnA w w' o e:=
 ⟨λk' h'=>(by rw[h]at h';cases h'),λL' h'=>by rw[h]at h';simp only[Except.ok.injEq]at h';subst h';exact⟨a,n,c,xs,he,hr,hi,hn,hc,Ew⟩,hk⟩
theorem Fj{m:Mk}{r b y:List Nat}(h:kD m r=some (b,y)):y.length<=r.length/\b.length=m.packed:=by
 unfold kD at h;rw[J3]at h;split at h
 ·rw[ak]at h;obtain⟨h1,h2,h3⟩:=xl h;rw[h2,h3,List.length_drop,List.length_take,List.length_drop];rw[List.length_drop]at h1;omega
 ·rw[bE]at h;cases h
theorem G4{fs n:Nat}{P R:List Nat}{l:List It}(h:iB R=none):fW fs (n+1) P R l=.error 81:=by rw[fW,h]
theorem G0{fs n:Nat}{P R R':List Nat}{l:List It}{m:Mk}{at':Nat}(h:iB R=some ((m,at'),R'))(hc:dy m (cT l)≠0):fW fs (n+1) P R l=.error (dy m (cT l)):=by rw[fW,h];simp only;rw[if_pos hc]
theorem JR{fs n:Nat}{P R R':List Nat}{l:List It}{m:Mk}{at':Nat}(h:iB R=some ((m,at'),R'))(hc:dy m (cT l)=0)(ha:at'≠fs-P.length):fW fs (n+1) P R l=.error 81:=by rw[fW,h];simp only;rw[if_neg (by omega),if_pos ha]
theorem FY{fs n:Nat}{P R R':List Nat}{l:List It}{m:Mk}{at':Nat}(h:iB R=some ((m,at'),R'))(hc:dy m (cT l)=0)(ha:at'=fs-P.length)(hp:kD m P=none):fW fs (n+1) P R l=.error 81:=by rw[fW,h];simp only;rw[if_neg (by omega),if_neg (by omega),hp]
theorem Da{fs n:Nat}{P R R':List Nat}{l:List It}{m:Mk}{at':Nat}(h:iB R=some ((m,at'),R'))(hc:dy m (cT l)=0)(ha:at'=fs-P.length){b P':List Nat}(hp:kD m P=some (b,P')):fW fs (n+1) P R l=fW fs n P' R' (l++[⟨m,b⟩]):=by rw[fW,h];simp only;rw[if_neg (by omega),if_neg (by omega),hp]
theorem RowC.off{α:Type}{B t k:Nat}{enc:α->List Value}{w:World}{v:Value}{xs:List α}(h:RowC B t k enc w v xs){g:Nat}{cs:Array Value}{t':Nat}(hb:Blk w g cs t')(ht:t'≠t):v.ownBlock≠some g:=by
 intro e;rcases h.2 with⟨rfl,_⟩ | ⟨g',cap,cur,rfl,_,hg,_⟩
 ·cases e
 ·simp only[Value.ownBlock,Option.some.injEq]at e;subst e;unfold Blk at hb;rw[hb]at hg;simp only[Option.some.injEq,Obj.cells.injEq]at hg;exact ht hg.2.1
structure Ql(w wr:World)(fs:Nat)(o:Except Nat (List It))(left:Nat)(pb rb:Nat)(i:Nat)(v:Value)(xs:List Itv)(L:List It)(P R:List Nat)(ap ar:Option Addr)(cp cr:Nat):Prop where
 row:RowC w.heap.size 78 6 mJ wr v xs
 its:Its w.heap.size wr xs L
 len:L.length=i
 pie:Cur w.heap.size wr pb P ap cp
 recs:Cur w.heap.size wr rb R ar cr
 same:Same w wr
 eq:o=fW fs left P R L
 two:pb≠rb
 fit:P.length<=fs
theorem Src.cut8{w:World}{I:Nat->Prop}{b o n c:Nat}{bs:List Nat}(hs:Src w I (.slice (some ⟨b,o,none⟩) n c) bs)(i j:Nat)(I0:i<=j)(hj:j<=bs.length)(c':Nat):Src w I (.slice (some ⟨b,o+i,none⟩) (j-i) c') ((bs.take j).drop i):=by
 obtain⟨ao,cap,e,h9⟩:=hs;simp only[Value.slice.injEq]at e;obtain⟨rfl,_,rfl⟩:=e;refine⟨_,_,by rw[List.length_drop,List.length_take,Nat.min_eq_left hj],λbw=>?_⟩;have hl:i<j:=by refine Classical.byContradiction (λhc=>bw ?_);exact List.drop_eq_nil_of_le (by rw[List.length_take];omega)
 obtain⟨b',o',e4,h5,h6⟩:=h9 (λe=>by rw[e]at hj;simp at hj;omega);simp only[Option.some.injEq,Addr.mk.injEq,and_true]at e4;obtain⟨rfl,rfl⟩:=e4;refine⟨b,o+i,rfl,h5,λk hk=>?_⟩;rw[List.length_drop,List.length_take]at hk;have:=h6 (i+k) (by omega);rw[List.getElem_drop,List.getElem_take,Nat.add_assoc];exact this
theorem Cb{w w3:World}{fs cnt b o c pn:Nat}{P0 R0:List Nat}{o8:Except Nat (List It)}(hk:Same w w3)(h8:o8=fW fs cnt P0 R0 [])(hsp:Src w (λk=>k<w.heap.size) (.slice (some ⟨b,o,none⟩) fs c) P0)(hsr:Src w (λk=>k<w.heap.size) (.slice (some ⟨b,o+fs,none⟩) (pn-fs) (c-fs)) R0)(hl:P0.length=fs/\R0.length=pn-fs)(yB:(∀x∈P0,x<256)/\(∀x∈R0,x<256))(h1:fs<=pn)(h2:pn<=c)(h3:pn<=1048576){wx:World}{pb rb:Nat}(Qq:Same w3 wx)(hb1:Blk wx pb #[.slice (some ⟨b,o,none⟩) fs c] 129)(hb2:Blk wx rb #[.slice (some ⟨b,o+fs,none⟩) (pn-fs) (c-fs)] 129)(hn1:w3.heap.size<=pb)(hn2:w3.heap.size<=rb)(bw:pb≠rb):Ql w wx fs o8 cnt pb rb 0 (.slice none 0 0) [] [] P0 R0 (some ⟨b,o,none⟩) (some ⟨b,o+fs,none⟩) c (c-fs):=by have hkk:=Same.trans hk Qq;have cZ:=hk.size;refine⟨RowC.nil,Its.nil _ _,rfl,⟨by rw[hl.1];exact hb1,by rw[hl.1];exact hsp.kept hkk (λ_ _ _ f=>f),by omega,by omega,yB.1,by omega,by simp⟩,⟨by rw[hl.2];exact hb2,by rw[hl.2];exact hsr.kept hkk (λ_ _ _ f=>f),by omega,by omega,yB.2,by omega,by simp⟩,hkk,h8,bw,by omega⟩
theorem y8(w:World)(x:Itv):aV (w.alloc (.cells #[.int .u16 (x.m.way:Nat),.int .u32 (x.m.sum:Nat),.int .u32 (x.m.packed:Nat),.int .u32 (x.m.size:Nat),.string (bJ x.m.name),.slice x.a x.n x.c] 78)) ⟨w.heap.size,0,none⟩ ([x].flatMap mJ):=by
 intro j u hj
 match j,hj with
 | 0,hj=>simp[mJ]at hj;subst hj;simp[cw]
 | 1,hj=>simp[mJ]at hj;subst hj;simp[cw]
 | 2,hj=>simp[mJ]at hj;subst hj;simp[cw]
 | 3,hj=>simp[mJ]at hj;subst hj;simp[cw]
 | 4,hj=>simp[mJ]at hj;subst hj;simp[cw]
 | 5,hj=>simp[mJ]at hj;subst hj;simp[cw]
 | j+6,hj=>simp[mJ]at hj
theorem Dh(w:World)(b o:Nat)(c:Nat)(bs:List Nat)(n:Nat)(hL:n=bs.length)(hs:Src w (fun k=>k<w.heap.size) (.slice (some ⟨b,o,none⟩) n c) bs)(hb:∀x∈bs,x<256)(cE:n≤c)(h1:22≤n)(h2:n≤1048576)(cnt fs:Nat)(he:j0 (bs.drop (n-22)) (n-22)=.ok (cnt,fs))(hf:fs≤n-22)(Ew:cnt≤64)(hx:Mxl w):
  Calls Tryz.prog 51 #[.slice (some ⟨b,o,none⟩) n c] w λe w'=>OpnA w w' (fW fs cnt (bs.take fs) ((bs.take (n-22)).drop fs) []) e:=by
 have b1:decide ((n:Int)<=1048576)=true:=by simp;omega
 have b2:decide (n<=1048576)=true:=by simp;omega
 have b3:decide ((22:Int)<=(n:Int))=true:=by simp;omega
 have b4:decide (22<=n)=true:=by simp;omega
 obtain⟨p,hp⟩:∃p,p=n-22:=⟨_,rfl⟩
 rw[<-hp]at he hf ⊢;have LL:(n:Int)-22=(p:Int):=by omega
 have mI:IntKind.i64.wrap (p:Int)=(p:Int):=by rw[IntKind.wrap_i64];omega
 have i1:(0:Int)<=(p:Int):=by omega
 have i2:(p:Int)<=(n:Int):=by omega
 have i3:(n:Int)<=(c:Int):=by omega
 have HO:=bl w (.int .i64 2);have HP:=bl w (.int .i64 81);have Ex:(bs.drop p).length=22:=by rw[List.length_drop];omega
 have HSD:Hid (∀c',Src w (λk=>k<w.heap.size) (.slice (some ⟨b,o+p,none⟩) (bs.drop p).length c') (bs.drop p)):=hid (λc'=>by
  have h9:=hs.cut8 p n (by omega) (by omega) c';rw[List.take_of_length_le (by omega)]at h9;rw[Ex];rw[show n-p=22 by omega]at h9;exact h9)
 have HE:Hid (∀c',22<=c'->Calls Tryz.prog 91 #[.slice (some ⟨b,o+p,none⟩) 22 c',.int .i64 (p:Nat)] w λe w'=>EndA w w' (j0 (bs.drop p) p) e):=hid (λc' h9=>by
  have h8:=BS w.heap.size w (bs.drop p) (some ⟨b,o+p,none⟩) c' p (HSD.out c') (by omega) (Nat.le_refl _) (λx hx=>hb x (List.mem_of_mem_drop hx)) (by omega) (by omega) (by simp);rw[Ex]at h8;exact h8)
 have Jp:n-p=22:=by omega
 have HER:Hid (j0 (bs.drop p) p=.ok (cnt,fs)):=he;have HSP:Hid (Src w (λk=>k<w.heap.size) (.slice (some ⟨b,o,none⟩) fs c) (bs.take fs)):=hid (by
  have h9:=hs.cut8 0 fs (by omega) (by omega) c;simpa using h9)
 have HSR:Hid (Src w (λk=>k<w.heap.size) (.slice (some ⟨b,o+fs,none⟩) (p-fs) (c-fs)) ((bs.take p).drop fs)):=hid (hs.cut8 fs p hf (by omega) _);have HBY:Hid (∀x∈bs,x<256):=hb;have HLP:Hid ((bs.take fs).length=fs/\((bs.take p).drop fs).length=p-fs):=hid ⟨by rw[List.length_take];omega,by rw[List.length_drop,List.length_take];omega⟩;have HX:Hid (Mxl w):=hx;have j1:(0:Int)<=(fs:Int):=by omega
 have j2:(fs:Int)<=(p:Int):=by omega
 have j3:(fs:Int)<=(c:Int):=by omega
 have j4:(p:Int)<=(c:Int):=by omega
 have j5:¬c=fs:=by omega
 have V5:fs<=1048576:=by omega
 have PM:p<=1048576:=by omega
 have ES:fs<=p:=hf;have Rr:p<=c:=by omega
 obtain⟨P0,Tc⟩:∃P,P=bs.take fs:=⟨_,rfl⟩
 obtain⟨R0,RP⟩:∃R,R=(bs.take p).drop fs:=⟨_,rfl⟩
 have HPR:Hid ((∀x∈P0,x<256)/\(∀x∈R0,x<256)):=hid (by
  rw[Tc,RP];exact⟨λx hx=>hb x (List.mem_of_mem_take hx),λx hx=>hb x (List.mem_of_mem_take (List.mem_of_mem_drop hx))⟩)
 rw[<-Tc]at HSP HLP ⊢;rw[<-RP]at HSR HLP ⊢;obtain⟨o8,OS⟩:∃x,x=fW fs cnt P0 R0 []:=⟨_,rfl⟩
 have HO8:Hid (o8=fW fs cnt P0 R0 []):=OS;rw[<-OS];clear hs hb h1 h2 Ex he hp hL Tc RP HBY OS hx hf;go_enter Tryz.func51,Tryz.ntmps51;go_wp2_with fail;refine HO.mono ?_;rintro e w1 ⟨rfl,hw1⟩;subst hw1;clear HO;go_wp2_with fail;refine HP.mono ?_;rintro e w2 ⟨rfl,hw2⟩;subst hw2;clear HP;go_wp2_with fail;refine(HE.out _ (by omega)).mono ?_;intro e w3 h3;obtain⟨rfl,hk3⟩:=h3.1 cnt fs HER.out;have HK3:Hid (Same w2 w3):=hk3;clear h3 hk3;go_upto_region 5 with fail
 go_cut [6,7]from 30 to 40 (λz6 z7 wx=>∃pb rb,z6=.pointer (some ⟨pb,0,none⟩)/\z7=.pointer (some ⟨rb,0,none⟩)/\Hid (Ql w2 wx fs o8 cnt pb rb 0 (.slice none 0 0) [] [] P0 R0 (some ⟨b,o,none⟩) (some ⟨b,o+fs,none⟩) c (c-fs)))
 case first=>
  go_region
  ·go_wp2_with fail;go_meet
   refine⟨_,_,rfl,rfl,hid (Cb HK3.out HO8.out HSP.out HSR.out HLP.out HPR.out ES Rr PM ((((Kept.refl _ w3).alloc _).alloc _).drew) ?_ ?_ (Nat.le_refl _) (Nat.le_succ _) (by omega))⟩
   ·exact(Blk.new w3 _ _).kept (show Same _ _ from((Kept.refl _ _).alloc _).drew) (λf=>f)
   ·have h9:=Blk.new (w3.alloc (.cells #[.slice (some ⟨b,o,none⟩) fs c] 129)) #[.slice (some ⟨b,o+fs,none⟩) (p-fs) (c-fs)] 129;rw[World.size_alloc]at h9;exact h9
  ·go_wp2_with fail;go_meet
   refine⟨_,_,rfl,rfl,hid (Cb HK3.out HO8.out HSP.out HSR.out HLP.out HPR.out ES Rr PM ((((Kept.refl _ w3).alloc _).alloc _).drew) ?_ ?_ (Nat.le_succ _) (Nat.le_refl _) (by omega))⟩
   ·have h9:=Blk.new (w3.alloc (.cells #[.slice (some ⟨b,o+fs,none⟩) (p-fs) (c-fs)] 129)) #[.slice (some ⟨b,o,none⟩) fs c] 129;rw[World.size_alloc]at h9;exact h9
   ·exact(Blk.new w3 _ _).kept (show Same _ _ from((Kept.refl _ _).alloc _).drew) (λf=>f)
 case rest=>
  obtain⟨pb,rb,rfl,rfl,HI0⟩:=hcut;clear HSD HE HSP HSR HLP HPR HO8 HER HK3 j1 j2 j3 j4 j5 i1 i2 i3 LL mI Jp cE Rr PM ES;go_wp2_with fail;go_loopg [8,42] cnt (λqq z8 z42 wr=>∃(i:Nat) (xs:List Itv) (L:List It) (P R:List Nat) (ap ar:Option Addr) (cp cr:Nat),z42=.int .i64 (i:Nat)/\i<=cnt/\cnt-i<=qq/\Hid (Ql w2 wr fs o8 (cnt-i) pb rb i z8 xs L P R ap ar cp cr))
  case atStart=>exact⟨0,[],[],P0,R0,_,_,_,_,rfl,by omega,by omega,HI0⟩
  case round=>
   clear HI0;obtain⟨i,xs,L,P,R,ap,ar,cp,cr,rfl,hi1,NA,HI⟩:=hrel;obtain⟨v0,tE⟩:∃v,v=u8:=⟨_,rfl⟩
   rw[<-tE]at HI;rw[<-tE];clear tE;obtain⟨a0,c0,tE,_,_,lK,_⟩:=HI.out.row.shape;have sd:xs.length=i:=(by rw[HI.out.its.1,HI.out.len]);rw[sd]at tE lK;subst tE;have HXL:Hid (xs.length=i):=sd;obtain⟨np,Jp⟩:∃n,n=P.length:=⟨_,rfl⟩
   obtain⟨nr,NJ⟩:∃n,n=R.length:=⟨_,rfl⟩
   have HNP:Hid (np=P.length/\nr=R.length):=hid ⟨Jp,NJ⟩;have X9:np<=fs:=(by rw[Jp];exact HI.out.fit);clear Jp NJ sd;by_cases hi:i<cnt
   ·have mM:decide (i<cnt)=true:=(by simp;omega);obtain⟨k,hk⟩:∃k,cnt-i=k+1:=⟨cnt-i-1,by omega⟩
    have HLF:Hid (cnt-i=k+1/\cnt-(i+1)=k):=hid ⟨hk,by omega⟩;have EL:IntKind.i64.wrap ((i:Int)+1)=((i+1:Nat):Int):=(by rw[IntKind.wrap_i64];omega);have HEQ:Hid (o8=fW fs (k+1) P R L):=hid (by rw[<-hk];exact HI.out.eq);have H1:=JZ w2.heap.size wr rb R ar cr HI.out.recs;clear hk;go_wp2_with fail;refine H1.mono ?_;intro e w4 h4;cases ht:iB R with
    | none=>
     obtain⟨rfl,hk4⟩:=h4.2 ht;have HF:Hid (OpnA w2 w4 o8 (aH 81)):=hid (OpnA.bad (by rw[HEQ.out];exact G4 ht) rfl (HI.out.same.then hk4 (λx hx e=>by have:=HI.out.recs.new;omega)));clear h4 hk4 ht H1;unfold aH;go_wp2_with fail;exact⟨rfl,HF.out⟩
    | some q=>
     obtain⟨⟨m,at'⟩,R'⟩:=q;obtain⟨ar',cr',rfl,sq,hnb,hat,lL,hk4⟩:=h4.1 m at' R' ht;have HT:Hid (iB R=some ((m,at'),R')):=ht;have HM:Hid (gP m/\(∀b∈m.name,b<256)):=hid ⟨sq,hnb⟩;have IC:(Value.slice a0 i c0).ownBlock≠some rb:=HI.out.row.off HI.out.recs.blk (by decide);have HR4:Hid (RowC w2.heap.size 78 6 mJ w4 (.slice a0 i c0) xs):=hid (HI.out.row.kept hk4 (λj e f=>IC (by rw[e,f])));have HI4:Hid (Its w2.heap.size w4 xs L):=hid (HI.out.its.kept hk4 (λx hx e=>by have:=HI.out.recs.new;omega));have HP4:Hid (Cur w2.heap.size w4 pb P ap cp):=hid (HI.out.pie.kept hk4 HI.out.two (λx hx e=>by have:=HI.out.recs.new;omega));have HC4:Hid (Cur w2.heap.size w4 rb R' ar' cr'):=lL;have HK4:Hid (Same w2 w4):=hid (HI.out.same.then hk4 (λx hx e=>by have:=HI.out.recs.new;omega));obtain⟨wA,mP⟩:∃W,W=w4.alloc (.cells #[.int .u16 (m.way:Nat),.int .u32 (m.sum:Nat),.int .u32 (m.packed:Nat),.int .u32 (m.size:Nat),.string (bJ m.name)] 60):=⟨_,rfl⟩
     obtain⟨lb,sl⟩:∃b,b=w4.heap.size:=⟨_,rfl⟩
     have HLA:Hid (LabBk wA lb m):=hid (by rw[mP,sl];exact Blk.new w4 _ _);have HKA:Hid (Same w4 wA):=hid (by rw[mP];exact(Kept.refl _ w4).alloc _);have HCL:=pX wA m a0 i c0 _ _ (Itms.ofRow (HR4.out.kept HKA.out (λ_ _ f=>f)) HXL.out.symm) (by omega) hnb (λj hj=>HI4.out.nam j (by have:=HXL.out;omega)) (HX.out.kept (Same.trans HK4.out HKA.out) (λf=>f));have Qi:jV (λj=>(xs.getD j default).m) i=cT L:=(by have h9:=HI4.out.names;rw[HXL.out]at h9;exact h9);rw[Qi]at HCL;obtain⟨Ur,Uz,UL,O6,Pd⟩:=HLA.out.cells;obtain⟨ck,hck⟩:∃x,x=dy m (cT L):=⟨_,rfl⟩
     rw[<-hck]at HCL;have HCK:Hid (ck=dy m (cT L)):=hck;unfold lV at HCL ⊢;clear h4 hk4 ht H1 sq hnb IC lL Qi hck;go_wp2_with fail;rw[<-mP,<-sl];clear mP sl;refine HCL.mono ?_;intro e w5 h5;obtain⟨Q2,Q6,hk5⟩:=h5;have HK5:Hid (Same w4 w5):=hid (Same.trans HKA.out hk5);by_cases hz:ck=0
     ·have Q2:=Q2 hz;subst Q2;have HZ:Hid (dy m (cT L)=0):=hid (by rw[<-HCK.out];exact hz);have HL5:Hid (LabBk w5 lb m):=hid (HLA.out.kept hk5);have HP5:Hid (Cur w2.heap.size w5 pb P ap cp):=hid (HP4.out.kept HK5.out (λf=>f) (λ_ _ f=>f));obtain⟨d0,d1,d2,d3,d4⟩:=HL5.out.cells;have p0:w5.cell? ⟨pb,0,none⟩=some (.slice ap np cp):=(by have h9:=HP5.out.blk.cell 0;rw[HNP.out.1];simpa using h9);obtain⟨dz,Cy⟩:∃d,d=fs-np:=⟨_,rfl⟩
      have To:(fs:Int)-(np:Int)=(dz:Int):=(by omega);have ZU:IntKind.i64.wrap (dz:Int)=(dz:Int):=(by rw[IntKind.wrap_i64];omega);have YI:IntKind.u32.wrap (dz:Int)=(dz:Int):=(by rw[IntKind.wrap_u32];omega);have HDZ:Hid (dz=fs-P.length):=hid (by rw[<-HNP.out.1];exact Cy);clear Q6 hk5 HCL hz HCK Ur Uz UL O6 Pd Cy HLA;by_cases ha:at'=dz
      ·have EV:((at':Int)==(dz:Int))=true:=(by simp;omega);have HA:Hid (at'=fs-P.length):=hid (by rw[<-HDZ.out];exact ha);have HO:=bl w5 (.int .i64 81);have HPI:=J6 w2.heap.size w5 pb m P ap cp HP5.out HM.out.1 HM.out.2 (jc HZ.out).2.2.2.2.1;unfold lV at HPI;clear ha hat;go_wp2_with fail;refine HO.mono ?_;rintro e w6 ⟨rfl,hw6⟩;subst hw6;clear HO p0;go_wp2_with fail;refine HPI.mono ?_;intro e w7 h7;cases A0:kD m P with
       | none=>
        obtain⟨rfl,dk⟩:=h7.2 A0;have HF:Hid (OpnA w2 w7 o8 (aH 81)):=hid (OpnA.bad (by rw[HEQ.out];exact FY HT.out HZ.out HA.out A0) rfl ((Same.trans HK4.out HK5.out).then dk (λx hx e=>by have:=HP5.out.new;omega)));clear h7 dk A0 HPI;unfold aH;go_wp2_with fail;exact⟨rfl,HF.out⟩
       | some q=>
        obtain⟨bb,P'⟩:=q;obtain⟨v7,ap',cp',rfl,htk,lL,dk⟩:=h7.1 bb P' A0;obtain⟨va,vc,NT⟩:=htk.shp;subst NT;have HTK:Hid (Tkn w2.heap.size w7 (.slice va m.packed vc) m.packed bb):=htk;have HC7:Hid (Cur w2.heap.size w7 pb P' ap' cp'):=lL;have IC:(Value.slice a0 i c0).ownBlock≠some pb:=(HR4.out.kept HK5.out (λ_ _ f=>f)).off HP5.out.blk (by decide);have HR7:Hid (RowC w2.heap.size 78 6 mJ w7 (.slice a0 i c0) xs):=hid ((HR4.out.kept HK5.out (λ_ _ f=>f)).kept dk (λj e f=>IC (by rw[e,f])));have HI7:Hid (Its w2.heap.size w7 xs L):=hid ((HI4.out.kept HK5.out (λ_ _ f=>f)).kept dk (λx hx e=>by have:=HP5.out.new;omega));have HRC7:Hid (Cur w2.heap.size w7 rb R' ar' cr'):=hid ((HC4.out.kept HK5.out (λf=>f) (λ_ _ f=>f)).kept dk (λe=>HI.out.two e.symm) (λx hx e=>by have:=HP5.out.new;omega));have HK7:Hid (Same w2 w7):=hid ((Same.trans HK4.out HK5.out).then dk (λx hx e=>by have:=HP5.out.new;omega));have HEQ7:Hid (o8=fW fs k P' R' (L++[⟨m,bb⟩])):=hid (by rw[HEQ.out];exact Da HT.out HZ.out HA.out A0);have HFIT:Hid (P'.length<=fs):=hid (Nat.le_trans (Fj A0).1 HI.out.fit);have Wp:i<=64:=(by omega);unfold jA;clear h7 htk lL dk A0 HPI IC d0 d1 d2 d3 d4;go_wp2_with (at_builtin;refine ea _ mJ 6 qJ (by decide) w2.heap.size 75 78 (.agg #[.int .u16 0,.int .u32 0,.int .u32 0,.int .u32 0,.string ⟨#[]⟩,.slice none 0 0]) 56 Tryz.underlying75 Tryz.infoItem rfl (by decide) rfl (.tmp 63) (.tmp 67) rfl (.slice a0 i c0) xs rfl (HR7.out.kept (show Same _ _ from(Kept.refl _ _).alloc _) (λ_ _ f=>f)) ⟨w7.heap.size,0,none⟩ 1 1 [⟨m,va,m.packed,vc⟩] rfl rfl (y8 w7 ⟨m,va,m.packed,vc⟩) (by have:=HXL.out;simp;omega) (by have:=HK7.out.size;simp;omega) ?_;intro v8 w8 hr8 LP);obtain⟨wB,yr⟩:∃W,W=w7.alloc (.cells #[.int .u16 (m.way:Nat),.int .u32 (m.sum:Nat),.int .u32 (m.packed:Nat),.int .u32 (m.size:Nat),.string (bJ m.name),.slice va m.packed vc] 78):=⟨_,rfl⟩
        have Ib:wB.grownBy w8 (Value.slice a0 i c0).ownBlock:=(by rw[yr];exact LP);have uZ:Same w7 wB:=(by rw[yr];exact(Kept.refl _ w7).alloc _);have hk8:Kept (λk=>(Value.slice a0 i c0).ownBlock=some k) wB w8:=(Kept.refl _ wB).grown Ib (λk e=>.inl e);have Eu:∀x,x<w2.heap.size->¬(Value.slice a0 i c0).ownBlock=some x:=λx hx e=>by have:=HR7.out.ge e;omega
        have HF:Hid (Ql w2 w8 fs o8 (cnt-(i+1)) pb rb (i+1) v8 (xs++[⟨m,va,m.packed,vc⟩]) (L++[⟨m,bb⟩]) P' R' ap' ar' cp' cr'):=hid (by
         refine⟨hr8,?_,by rw[List.length_append,HI.out.len];rfl,?_,?_,(Same.trans HK7.out uZ).then hk8 Eu,by rw[HLF.out.2];exact HEQ7.out,HI.out.two,HFIT.out⟩
         ·refine((HI7.out.kept uZ (λ_ _ f=>f)).kept hk8 Eu).snoc ?_;exact⟨rfl,(HTK.out.src.kept uZ (λ_ _ _ f=>f)).kept hk8 (λx hx _=>Eu x hx),HTK.out.len.symm,HTK.out.byte,HM.out.2,HM.out.1,HTK.out.len,⟨_,HZ.out⟩,λe=>HTK.out.adr m.packed vc (by show Value.slice va m.packed vc=_;rw[show va=none from e])⟩
         ·refine(HC7.out.kept uZ (λf=>f) (λ_ _ f=>f)).kept hk8 (λe=>?_) Eu;exact(HR7.out.off HC7.out.blk (by decide)) e
         ·refine(HRC7.out.kept uZ (λf=>f) (λ_ _ f=>f)).kept hk8 (λe=>?_) Eu;exact(HR7.out.off HRC7.out.blk (by decide)) e)
        clear hr8 LP yr Ib uZ hk8 Eu;go_wp2_with fail;go_roundg (gk-1)
        case measure=>omega
        case rel=>exact⟨i+1,_,_,_,_,_,_,_,_,by go_num,by omega,by omega,HF⟩
      ·have EV:((at':Int)==(dz:Int))=false:=(by simp;omega);have HO:=aL w5 81;have HF:Hid (OpnA w2 w5 o8 (aH 81)):=hid (OpnA.bad (by rw[HEQ.out];exact JR HT.out HZ.out (by rw[<-HDZ.out];exact ha)) rfl (Same.trans HK4.out HK5.out));clear ha;go_wp2_with fail;refine HO.mono ?_;rintro e w6 ⟨rfl,hw6⟩;subst hw6;clear HO;unfold aH;go_wp2_with fail;exact⟨rfl,HF.out⟩
     ·have Q6:=Q6 hz;subst Q6;have HF:Hid (OpnA w2 w5 o8 (aH ck)):=hid (OpnA.bad (by rw[HEQ.out,HCK.out];exact G0 HT.out (by rw[<-HCK.out];exact hz)) rfl (Same.trans HK4.out HK5.out));clear Q2 hk5 HCL hz Ur Uz UL O6 Pd;unfold aH;go_wp2_with fail;exact⟨rfl,HF.out⟩
   ·have mM:decide (i<cnt)=false:=(by simp;omega);obtain rfl:i=cnt:=(by omega);have HEQ:Hid (o8=if np=0/\nr=0 then .ok L else .error 81):=hid (by rw[HI.out.eq,Nat.sub_self,fW,HNP.out.1,HNP.out.2]);have p0:wr.cell? ⟨pb,0,none⟩=some (.slice ap np cp):=(by have h9:=HI.out.pie.blk.cell 0;rw[HNP.out.1];simpa using h9);have r0:wr.cell? ⟨rb,0,none⟩=some (.slice ar nr cr):=(by have h9:=HI.out.recs.blk.cell 0;rw[HNP.out.2];simpa using h9);by_cases yR:np=0
    ·have q1:((np:Int)==0)=true:=(by simp;omega);by_cases pL:nr=0
     ·have q2:((nr:Int)==0)=true:=(by simp;omega);have HO:=bl wr (.int .i64 81);have HE2:Hid (o8=.ok L):=hid (by rw[HEQ.out,if_pos ⟨yR,pL⟩]);clear yR pL;go_wp2_with fail;refine HO.mono ?_;rintro e w6 ⟨rfl,hw6⟩;subst hw6;clear HO;go_wp2_with fail;go_ret;exact OpnA.good HE2.out rfl HI.out.row HI.out.its HXL.out.symm lK (by omega) HI.out.same
     ·have q2:((nr:Int)==0)=false:=(by simp;omega);have HO:=aL wr 81;have HF:Hid (OpnA w2 wr o8 (aH 81)):=hid (OpnA.bad (by rw[HEQ.out,if_neg (λh=>pL h.2)]) rfl HI.out.same);clear pL yR;go_wp2_with fail;refine HO.mono ?_;rintro e w6 ⟨rfl,hw6⟩;subst hw6;clear HO;unfold aH;go_wp2_with fail;exact⟨rfl,HF.out⟩
    ·have q1:((np:Int)==0)=false:=(by simp;omega);have HO:=aL wr 81;have HF:Hid (OpnA w2 wr o8 (aH 81)):=hid (OpnA.bad (by rw[HEQ.out,if_neg (λh=>yR h.1)]) rfl HI.out.same);clear yR;go_wp2_with fail;refine HO.mono ?_;rintro e w6 ⟨rfl,hw6⟩;subst hw6;clear HO;unfold aH;go_wp2_with fail;exact⟨rfl,HF.out⟩
def wv(D:List (List Nat×List Nat))(o:Except Nat (List (List Nat×List Nat))):Except Nat (List (List Nat×List Nat)):=match o with
 | .error e=>.error e
 | .ok r=>.ok (D++r)
theorem Gx{D:List (List Nat×List Nat)}{L:List It}{j k:Nat}{y:It}(h:L[j]? = some y)(hu:dV y=.error k):wv D (iW (L.drop j))=.error k:=by have hj:=(List.getElem?_eq_some_iff.1 h).1;have e:=(List.getElem?_eq_some_iff.1 h).2;rw[List.drop_eq_getElem_cons hj,e,iW,hu];rfl
theorem DT{D:List (List Nat×List Nat)}{L:List It}{j:Nat}{y:It}{d:List Nat}(h:L[j]? = some y)(hu:dV y=.ok d):wv D (iW (L.drop j))=wv (D++[(y.lab.name,d)]) (iW (L.drop (j+1))):=by
 have hj:=(List.getElem?_eq_some_iff.1 h).1;have e:=(List.getElem?_eq_some_iff.1 h).2;rw[List.drop_eq_getElem_cons hj,e,iW,hu];simp only;cases iW (L.drop (j+1)) with
 | error e=>rfl
 | ok r=>simp[wv]
def jZ(p:List Nat×List Nat):En:=⟨bJ p.1,bJ p.2⟩
def AllA(w w':World)(o:Except Nat (List (List Nat×List Nat)))(e:Ending):Prop:=
 (∀k,o=.error k->e=aH k)/\(∀D,o=.ok D->∃a n c,e=.returned (.slice a n c)/\RowC w.heap.size 34 2 yl w' (.slice a n c) (D.map jZ)/\n=D.length)/\Same w w'
theorem AllA.bad{w w':World}{o:Except Nat (List (List Nat×List Nat))}{e:Ending}{k:Nat}(h:o=.error k)(he:e=aH k)(hk:Same w w'):AllA w w' o e:=
 ⟨λn h'=>by rw[h]at h';simp only[Except.error.injEq]at h';subst h';exact he,λd h'=>(by rw[h]at h';cases h'),hk⟩
structure Tk(w wr:World)(L:List It)(i:Nat)(v:Value)(D:List (List Nat×List Nat)):Prop where
 row:RowC w.heap.size 34 2 yl wr v (D.map jZ)
 len:D.length=i
 same:Same w wr
 eq:iW L=wv D (iW (L.drop i))
theorem zN(w:World)(y:En):aV (w.alloc (.cells #[.string y.n,.string y.d] 34)) ⟨w.heap.size,0,none⟩ ([y].flatMap yl):=by
 intro j u hj
 match j,hj with
 | 0,hj=>simp[yl]at hj;subst hj;simp[cw]
 | 1,hj=>simp[yl]at hj;subst hj;simp[cw]
 | j+2,hj=>simp[yl]at hj
theorem rW(N:Nat)(w:World)(a:Option Addr)(n c:Nat)(xs:List Itv)(L:List It)(hrow:RowC N 78 6 mJ w (.slice a n c) xs)(IM:Its N w xs L)(hn:n=xs.length)(Ew:n≤64)
  (hU:∀(j:Nat) (x:Itv) (y:It) (wx:World),xs[j]? = some x->L[j]? = some y->Same w wx->Calls Tryz.prog 59 #[.agg (jA x.m (.slice x.a x.n x.c))] wx λe w'=>UnpZ wx w' (dV y) e):
  Calls Tryz.prog 54 #[.slice a n c] w λe w'=>AllA w w' (iW L) e:=by
 have HU:Hid _:=hid hU;have HROW:Hid (RowC N 78 6 mJ w (.slice a n c) xs):=hrow;have HITS:Hid (Its N w xs L):=IM;have HN:Hid (n=xs.length/\n=L.length):=hid ⟨hn,by rw[hn];exact IM.1⟩;clear hU hrow IM hn;go_enter Tryz.func54,Tryz.ntmps54;go_wp2_with fail;go_loopg [3,8] n (λqq z3 z8 wr=>∃(i:Nat) (D:List (List Nat×List Nat)),z8=.int .i64 (i:Nat)/\i<=n/\n-i<=qq/\Hid (Tk w wr L i z3 D))
 case atStart=>exact⟨0,[],rfl,by omega,by omega,hid ⟨RowC.nil,rfl,Kept.refl _ _,by simp[wv];cases iW L<;>rfl⟩⟩
 case round=>
  obtain⟨i,D,rfl,hi1,NA,HI⟩:=hrel;obtain⟨v0,tE⟩:∃v,v=u3:=⟨_,rfl⟩
  rw[<-tE]at HI;rw[<-tE];clear tE;obtain⟨a0,c0,tE,_⟩:=HI.out.row.shape;rw[List.length_map,HI.out.len]at tE;subst tE;by_cases hi:i<n
  ·have mM:decide (i<n)=true:=(by simp;omega);have hx:=List.getElem?_eq_getElem (l:=xs) (i:=i) (by have:=HN.out;omega);have hy:=List.getElem?_eq_getElem (l:=L) (i:=i) (by have:=HN.out;omega);obtain⟨x,EN⟩:∃x,x=xs[i]'(by have:=HN.out;omega):=⟨_,rfl⟩
   obtain⟨y,PG⟩:∃y,y=L[i]'(by have:=HN.out;omega):=⟨_,rfl⟩
   rw[<-EN]at hx;rw[<-PG]at hy;obtain⟨g,cap,hv,_,hc⟩:=HROW.out.at8 qJ i (by have:=HN.out;omega);rw[<-EN]at hc;simp only[Value.slice.injEq]at hv;have fC:=hv.1;clear hv;subst fC;have rI:∀k u,k<6->(mJ x)[k]? = some u->wr.cell? ⟨g,i*6+k,none⟩=some u:=λk u h1 h2=>HI.out.same.cell ((hc k h1).trans h2) (λf=>f)
   have k0:=rI 0 _ (by decide) rfl;have k1:=rI 1 _ (by decide) rfl;have k2:=rI 2 _ (by decide) rfl;have k3:=rI 3 _ (by decide) rfl;have k4:=rI 4 _ (by decide) rfl;have k5:=rI 5 _ (by decide) rfl;rw[Nat.add_zero]at k0;have EL:IntKind.i64.wrap ((i:Int)+1)=((i+1:Nat):Int):=(by rw[IntKind.wrap_i64];omega);have i1:(0:Int)<=(i:Int):=(by omega);have i2:(i:Int)<(n:Int):=(by omega);have HY:Hid (L[i]? = some y):=hy;have HXL:Hid (x.m=y.lab):=hid (HITS.out.2 i x y hx hy).lab;obtain⟨wA,mP⟩:∃W,W=wr.alloc (.cells (jA x.m (.slice x.a x.n x.c)) 78):=⟨_,rfl⟩
   obtain⟨xb,ir⟩:∃b,b=wr.heap.size:=⟨_,rfl⟩
   have HKA:Hid (Same wr wA):=hid (by rw[mP];exact(Kept.refl _ wr).alloc _);have HXA:Hid (Blk wA xb (jA x.m (.slice x.a x.n x.c)) 78):=hid (by rw[mP,ir];exact Blk.new wr _ _);have HC:Hid (∀wx,Same wA wx->Calls Tryz.prog 59 #[.agg (jA x.m (.slice x.a x.n x.c))] wx λe w'=>UnpZ wx w' (dV y) e):=hid (λwx hk=>HU.out i x y wx hx hy (Same.trans HI.out.same (Same.trans HKA.out hk)));clear EN PG hx hy hc rI;unfold jA at mP HC HXA;have q0:wA.cell? ⟨xb,0,none⟩=some (.int .u16 (x.m.way:Nat)):=HXA.out.cell 0;have q1:wA.cell? ⟨xb,1,none⟩=some (.int .u32 (x.m.sum:Nat)):=HXA.out.cell 1;have q2:wA.cell? ⟨xb,2,none⟩=some (.int .u32 (x.m.packed:Nat)):=HXA.out.cell 2;have q3:wA.cell? ⟨xb,3,none⟩=some (.int .u32 (x.m.size:Nat)):=HXA.out.cell 3;have q4:wA.cell? ⟨xb,4,none⟩=some (.string (bJ x.m.name)):=HXA.out.cell 4;have q5:wA.cell? ⟨xb,5,none⟩=some (.slice x.a x.n x.c):=HXA.out.cell 5;cases hu:dV y with
   | error k=>
    rw[hu]at HC;have HE:Hid (iW L=.error k):=hid (by rw[HI.out.eq];exact Gx HY.out hu);clear hu;go_wp2_with fail;rw[<-mP,<-ir];clear mP ir;go_region_dies
    all_goals
     refine(HC.out _ ((Kept.refl _ wA).drew)).mono ?_;intro e w4 h4;obtain rfl:=h4.2.1 k rfl;exact⟨rfl,AllA.bad HE.out rfl (Same.trans HI.out.same (Same.trans HKA.out (Same.trans ((Kept.refl _ wA).drew) h4.2.2)))⟩
   | ok d=>
    rw[hu]at HC;have HE:Hid (iW L=wv (D++[(y.lab.name,d)]) (iW (L.drop (i+1)))):=hid (by rw[HI.out.eq];exact DT HY.out hu);clear hu;go_wp2_with fail;rw[<-mP,<-ir];clear mP ir;have HSZ:Hid (w.heap.size<=wr.heap.size/\xb<wA.heap.size):=hid ⟨HI.out.same.size,HXA.out.lt⟩;have HOX:Hid ((Value.slice a0 i c0).ownBlock≠some xb):=hid ((HI.out.row.kept HKA.out (λ_ _ f=>f)).off HXA.out (by decide));go_region_held3 (λw'=>w'.cell? ⟨xb,0,none⟩=some (.int .u16 (x.m.way:Nat))/\w'.cell? ⟨xb,1,none⟩=some (.int .u32 (x.m.sum:Nat))/\w'.cell? ⟨xb,2,none⟩=some (.int .u32 (x.m.packed:Nat))/\w'.cell? ⟨xb,3,none⟩=some (.int .u32 (x.m.size:Nat))/\w'.cell? ⟨xb,4,none⟩=some (.string (bJ x.m.name))/\w'.cell? ⟨xb,5,none⟩=some (.slice x.a x.n x.c))
     (first
      | (go_split_ands;exact⟨hk5.cell (by assumption) HOX.out,hk5.cell (by assumption) HOX.out,hk5.cell (by assumption) HOX.out,hk5.cell (by assumption) HOX.out,hk5.cell (by assumption) HOX.out,hk5.cell (by assumption) HOX.out⟩)
      | (go_split_ands;exact⟨hk4.cell (by assumption) (λf=>f),hk4.cell (by assumption) (λf=>f),hk4.cell (by assumption) (λf=>f),hk4.cell (by assumption) (λf=>f),hk4.cell (by assumption) (λf=>f),hk4.cell (by assumption) (λf=>f)⟩)
      | go_keep)
     (first
      | (go_at_call 59;refine(HC.out _ (by first | exact(Kept.refl _ _).drew | exact Kept.refl _ _ | exact(Kept.refl _ _).drewN _)).mono ?_;intro e w4 h4;obtain rfl:=h4.1 d rfl;have hk4:=h4.2.2;clear h4)
      | (have hw4:Same wA w4:=Same.trans ((Kept.refl _ wA).drew) hk4;refine iV yl 2 G6 w.heap.size 24 34 (.agg #[.string ⟨#[]⟩,.string ⟨#[]⟩]) 32 Tryz.underlying24 Tryz.infoEntry rfl (by decide) (by rfl) (.tmp 12) (.tmp 19) (by rfl) (.slice a0 i c0) (D.map jZ) (by rfl) (((HI.out.row.kept HKA.out (λ_ _ f=>f)).kept hw4 (λ_ _ f=>f)).kept (show Same _ _ from(Kept.refl _ _).alloc _) (λ_ _ f=>f)) ⟨w4.heap.size,0,none⟩ 1 1 [⟨bJ x.m.name,bJ d⟩] (by rfl) (by rfl) (zN w4 ⟨bJ x.m.name,bJ d⟩) (by rw[List.length_map,HI.out.len];simp;omega) (by have:=HSZ.out;have:=HKA.out.size;have:=hw4.size;simp;omega) ?_;intro v5 w5 hr5 ej;have hk5:Kept (λk=>(Value.slice a0 i c0).ownBlock=some k) (w4.alloc (.cells #[.string (bJ x.m.name),.string (bJ d)] 34)) w5:=(Kept.refl _ _).grown ej (λk e=>.inl e);clear ej))
    all_goals
     have HF:Hid (Tk w w5 L (i+1) v5 (D++[(y.lab.name,d)])):=hid ⟨by rw[List.map_append];show RowC _ _ _ _ _ _ (D.map jZ++[jZ (y.lab.name,d)]);rw[<-HXL.out];exact hr5,by rw[List.length_append,HI.out.len];rfl,(Same.trans HI.out.same (Same.trans HKA.out (Same.trans ((Kept.refl _ wA).drew) (Same.trans hk4 (show Same w4 (w4.alloc (.cells #[.string (bJ x.m.name),.string (bJ d)] 34)) from(Kept.refl _ _).alloc _))))).then hk5 (λx hx e=>by have:=HI.out.row.ge e;omega),HE.out⟩;clear hr5 hk5 hk4;go_wp2_with fail;go_roundg (gk-1)
     case measure=>omega
     case rel=>exact⟨i+1,_,by go_num,by omega,by omega,HF⟩
  ·have mM:decide (i<n)=false:=(by simp;omega);obtain rfl:i=n:=(by omega);go_wp2_with fail;go_ret;have h9:=HI.out.eq;rw[List.drop_eq_nil_of_le (by have:=HN.out;omega)]at h9;refine⟨λk e=>(by rw[h9]at e;cases e),λD' e=>?_,HI.out.same⟩;rw[h9]at e;simp only[wv,iW,List.append_nil,Except.ok.injEq]at e;subst e;exact⟨_,_,_,rfl,HI.out.row,HI.out.len.symm⟩
theorem Km{r:List Nat}{p n f:Nat}(h:j0 r p=.ok (n,f)):f<=p/\n<=64:=by
 unfold j0 at h;split at h
 ·cases h
 ·split at h
  ·cases h
  ·split at h
   ·cases h
   ·simp only[Except.ok.injEq,Prod.mk.injEq]at h;omega
theorem pU(w:World)(a:Option Addr)(n c:Nat)(bs:List Nat)(hs:Src w (fun k=>k<w.heap.size) (.slice a n c) bs)(hL:n=bs.length)(hb:∀x∈bs,x<256)(cE:n≤c)(hn:n≤100000000)(hx:Mxl w):
  Calls Tryz.prog 51 #[.slice a n c] w λe w'=>OpnA w w' (g6 bs) e:=by
 by_cases h1:1048576<n
 ·refine(CK w a n c h1 hn).mono ?_;rintro e w' ⟨he,hk⟩;exact OpnA.bad (by unfold g6;rw[if_pos (by omega)]) he hk
 ·by_cases h2:n<22
  ·refine(Aj w a n c h2).mono ?_;rintro e w' ⟨he,hk⟩;exact OpnA.bad (by unfold g6;rw[if_neg (by omega),if_pos (by omega)]) he hk
  ·obtain⟨b,o,ha⟩:∃b o,a=some ⟨b,o,none⟩:=by
    obtain⟨ao,cap,e,h9⟩:=id hs;simp only[Value.slice.injEq]at e;obtain⟨b,o,e4,_⟩:=h9 (λe=>by rw[e]at hL;simp at hL;omega);exact⟨b,o,by rw[e.1];exact e4⟩
   subst ha;have e1:g6 bs=match j0 (bs.drop (n-22)) (n-22) with
     | .error e=>.error e
     | .ok x=>fW x.2 x.1 (bs.take x.2) ((bs.take (n-22)).drop x.2) []:=by
    unfold g6;rw[if_neg (by omega),if_neg (by omega),hL];rfl
   cases he:j0 (bs.drop (n-22)) (n-22) with
   | error x=>
    rw[he]at e1;refine(Hh w b o c bs n hL hs hb cE (by omega) (by omega) x he).mono ?_;rintro e w' ⟨he,hk⟩;exact OpnA.bad e1 he hk
   | ok x=>
    obtain⟨cnt,fs⟩:=x;rw[he]at e1;obtain⟨h3,h4⟩:=Km he;rw[e1];exact Dh w b o c bs n hL hs hb cE (by omega) (by omega) cnt fs he h3 h4 hx
theorem sx{N:Nat}{w:World}{x:Itv}{y:It}(h:ItAt N w x y)(hz:y.lab.way=0):Calls Tryz.prog 59 #[.agg (jA x.m (.slice x.a x.n x.c))] w λe w'=>UnpZ w w' (dV y) e:=by
 rw[h.lab];obtain⟨a,ha⟩:=h.ck;have hl:y.bytes.length<=100000:=by have:=(jc ha).2.2.2.2.1;have:=h.pk;omega
 by_cases hq:more 0 y.bytes=y.lab.sum
 ·have e:dV y=.ok y.bytes:=(by unfold dV;rw[if_neg (by omega),if_pos hq]);rw[e];exact tR w y.lab x.a x.n x.c _ y.bytes h.src h.byte hl hz hq
 ·have e:dV y=.error 83:=(by unfold dV;rw[if_neg (by omega),if_neg hq]);rw[e];exact xD w y.lab x.a x.n x.c _ y.bytes h.src h.byte hl hz hq
def UnpOk(w:World)(L:List It):Prop:=∀(N:Nat) (wx:World) (x:Itv) (y:It),y∈L->ItAt N wx x y->Same w wx->Calls Tryz.prog 59 #[.agg (jA x.m (.slice x.a x.n x.c))] wx λe w'=>UnpZ wx w' (dV y) e
theorem UnpOk.zero(w:World)(L:List It)(h:∀y∈L,y.lab.way=0):UnpOk w L:=λ_ _ _ y hy hi _=>sx hi (h y hy)
def FK(bs:List Nat):Except Nat (List (List Nat×List Nat)):=match g6 bs with
 | .error e=>.error e
 | .ok L=>iW L
def U9(w w':World)(o:Except Nat (List (List Nat×List Nat)))(e:Ending):Prop:=
 (∀k,o=.error k->e=.returned (.tuple #[.slice none 0 0,.int .i64 (k:Nat)]))/\(∀D,o=.ok D->∃a n c,e=.returned (.tuple #[.slice a n c,.int .i64 0])/\RowC w.heap.size 34 2 yl w' (.slice a n c) (D.map jZ)/\n=D.length)/\Same w w'
theorem wh(w:World)(a:Option Addr)(n c:Nat)(bs:List Nat)(hs:Src w (fun k=>k<w.heap.size) (.slice a n c) bs)(hL:n=bs.length)(hb:∀x∈bs,x<256)(cE:n≤c)(hn:n≤100000000)(hx:Mxl w)(hU:∀L,g6 bs=.ok L→UnpOk w L):
  Calls Tryz.prog 20 #[.slice a n c] w λe w'=>U9 w w' (FK bs) e:=by
 have Nh:∀(fn:Fn) (first cap:Array Value) (w:World),(Instr.makeFunc fn first cap).run Tryz.prog w=.ok (.func fn first cap) w:=λ_ _ _ _=>rfl
 obtain⟨W1,hW1⟩:∃W,W=w.alloc (.cells #[.int .i64 0] 27):=⟨_,rfl⟩
 obtain⟨eb,Cl⟩:∃b,b=w.heap.size:=⟨_,rfl⟩
 have HK1:Hid (Same w W1):=hid (by rw[hW1];exact(Kept.refl _ w).alloc _);have HB1:Hid (Blk W1 eb #[.int .i64 0] 27):=hid (by rw[hW1,Cl];exact Blk.new w _ _);have HO:=pU W1 a n c bs ((hs.kept HK1.out (λ_ _ _ f=>f)).mono (λk hk=>Nat.lt_of_lt_of_le hk HK1.out.size)) hL hb cE hn (hx.kept HK1.out (λf=>f));have HEB:Hid (eb=w.heap.size):=Cl;have HU:Hid (∀L,g6 bs=.ok L->UnpOk w L):=hU;clear hs hL hb cE hx hU;go_enter_defers Tryz.func20,Tryz.ntmps20;go_wp2_with fail;rw[<-hW1,<-Cl];clear hW1 Cl;refine HO.mono ?_;intro e w1 h1;obtain⟨fX,eQ,hk1⟩:=h1;have HB2:Hid (Blk w1 eb #[.int .i64 0] 27):=hid (HB1.out.kept hk1 (λf=>f));have HK2:Hid (Same w w1):=hid (Same.trans HK1.out hk1);cases ho:g6 bs with
 | error k=>
  obtain rfl:=fX k ho;have HE:Hid (FK bs=.error k):=hid (by unfold FK;rw[ho]);clear hk1 HO fX eQ ho;unfold aH;go_wp2_with fail;have c0:w1.cell? ⟨eb,0,none⟩=some (.int .i64 0):=HB2.out.cell 0;have z0:=HB2.out.frozen 0;have d0:(w1.setCell ⟨eb,0,none⟩ (.int .i64 (k:Nat))).cell? ⟨eb,0,none⟩=some (.int .i64 (k:Nat)):=(by have:=(HB2.out.set 0 (.int .i64 (k:Nat))).cell 0;simpa using this);have HKF:Hid (Same w (w1.setCell ⟨eb,0,none⟩ (.int .i64 (k:Nat)))):=hid (HK2.out.setCell _ _ (.inr (by have h9:=HEB.out;show w.heap.size<=eb;omega)));refine leaves_cons (f:=53) (args:=#[.pointer (some ⟨eb,0,none⟩)]) (by simp) (by simp[go_sem]) ?_;refine(jm eb 0 k w1 c0 z0).mono ?_;rintro e u' w'' ⟨rfl,rfl,rfl⟩;simp[Leaves,settle,results,Tryz.results20,go_sem,d0];exact⟨λk' e=>by rw[HE.out]at e;simp only[Except.error.injEq]at e;subst e;rfl,λD e=>(by rw[HE.out]at e;cases e),HKF.out⟩
 | ok L=>
  obtain⟨a1,n1,c1,xs,rfl,hr1,hi1,hn1,eS,Ew⟩:=eQ L ho;have HE:Hid (FK bs=iW L):=hid (by unfold FK;rw[ho]);have HUL:=HU.out L ho;have HA:=rW W1.heap.size w1 a1 n1 c1 xs L hr1 hi1 hn1 Ew (λj x y wx hx hy hk=>HUL W1.heap.size wx x y (List.mem_of_getElem? hy) ((hi1.2 j x y hx hy).kept hk (λ_ _ f=>f)) (Same.trans HK2.out hk));clear hk1 HO fX eQ ho hr1 hi1 hn1 eS HUL;go_wp2_with fail;refine HA.mono ?_;intro e w2 h2;obtain⟨fX,eQ,hk2⟩:=h2;have HB3:Hid (Blk w2 eb #[.int .i64 0] 27):=hid (HB2.out.kept hk2 (λf=>f));have HK3:Hid (Same w w2):=hid (Same.trans HK2.out hk2);have c0:w2.cell? ⟨eb,0,none⟩=some (.int .i64 0):=HB3.out.cell 0;have z0:=HB3.out.frozen 0;cases hq:iW L with
  | error k=>
   obtain rfl:=fX k hq;have HE:Hid (FK bs=.error k):=hid (by rw[HE.out,hq]);clear fX eQ hk2 hq HA;unfold aH;go_wp2_with fail;have d0:(w2.setCell ⟨eb,0,none⟩ (.int .i64 (k:Nat))).cell? ⟨eb,0,none⟩=some (.int .i64 (k:Nat)):=(by have:=(HB3.out.set 0 (.int .i64 (k:Nat))).cell 0;simpa using this);have HKF:Hid (Same w (w2.setCell ⟨eb,0,none⟩ (.int .i64 (k:Nat)))):=hid (HK3.out.setCell _ _ (.inr (by have h9:=HEB.out;show w.heap.size<=eb;omega)));refine leaves_cons (f:=53) (args:=#[.pointer (some ⟨eb,0,none⟩)]) (by simp) (by simp[go_sem]) ?_;refine(jm eb 0 k w2 c0 z0).mono ?_;rintro e u' w'' ⟨rfl,rfl,rfl⟩;simp[Leaves,settle,results,Tryz.results20,go_sem,d0];exact⟨λk' e=>by rw[HE.out]at e;simp only[Except.error.injEq]at e;subst e;rfl,λD e=>(by rw[HE.out]at e;cases e),HKF.out⟩
  | ok D=>
   obtain⟨a2,n2,c2,rfl,hr2,hn2⟩:=eQ D hq;have HE:Hid (FK bs=.ok D):=hid (by rw[HE.out,hq]);have HR2:Hid (RowC w.heap.size 34 2 yl w2 (.slice a2 n2 c2) (D.map jZ)/\n2=D.length):=hid ⟨hr2.base HK2.out.size,hn2⟩;clear fX eQ hk2 hq HA hr2 hn2;go_wp2_with fail;obtain⟨w3,hw3⟩:∃W,W=w2.setCell ⟨eb,0,none⟩ (.int .i64 0):=⟨_,rfl⟩
   have hb3:Blk w3 eb #[.int .i64 0] 27:=(by rw[hw3];have:=HB3.out.set 0 (.int .i64 0);simpa using this);have HKF:Hid (Same w (w3.setCell ⟨eb,0,none⟩ (.int .i64 0))):=hid (by rw[hw3];exact(HK3.out.setCell _ _ (.inr (by have h9:=HEB.out;show w.heap.size<=eb;omega))).setCell _ _ (.inr (by have h9:=HEB.out;show w.heap.size<=eb;omega)));have hks:Kept (·=eb) w2 (w3.setCell ⟨eb,0,none⟩ (.int .i64 0)):=(by rw[hw3];exact((Kept.refl (·=eb) w2).setCell _ _ (.inl rfl)).setCell _ _ (.inl rfl));have HRF:Hid (RowC w.heap.size 34 2 yl (w3.setCell ⟨eb,0,none⟩ (.int .i64 0)) (.slice a2 n2 c2) (D.map jZ)):=hid (HR2.out.1.kept hks (λj e f=>HR2.out.1.off HB3.out (by decide) (by rw[e,f])));have d0:(w3.setCell ⟨eb,0,none⟩ (.int .i64 0)).cell? ⟨eb,0,none⟩=some (.int .i64 0):=(by have:=(hb3.set 0 (.int .i64 0)).cell 0;simpa using this);rw[<-hw3];refine leaves_cons (f:=53) (args:=#[.pointer (some ⟨eb,0,none⟩)]) (by simp) (by simp[go_sem]) ?_;refine(wi eb 0 w3 (hb3.cell 0) (hb3.frozen 0)).mono ?_;rintro e u' w'' ⟨rfl,rfl,rfl⟩;simp[Leaves,settle,results,Tryz.results20,go_sem,d0];exact⟨λk' e=>(by rw[HE.out]at e;cases e),λD' e=>by rw[HE.out]at e;simp only[Except.ok.injEq]at e;subst e;exact⟨a2,n2,c2,rfl,HRF.out,HR2.out.2⟩,HKF.out⟩
def D5(L:List It)(s:List Nat):Except Nat (List Nat):=match L.find? (λy=>decide (y.lab.name=s)) with
 | none=>.error 85
 | some y=>dV y
def AA(bs s:List Nat):Except Nat (List Nat):=match g6 bs with
 | .error e=>.error e
 | .ok L=>D5 L s
theorem GK(L:List It)(s:List Nat)(p:Nat->Bool)(i:Nat)(h:∀j (hj:j<L.length),p (i+j)=decide (L[j].lab.name=s)):(∃y,L.find? (λy=>decide (y.lab.name=s))=some y/\L[f9 p L.length i-i]? = some y/\f9 p L.length i<i+L.length/\i<=f9 p L.length i)\/(L.find? (λy=>decide (y.lab.name=s))=none/\f9 p L.length i=i+L.length):=by
 induction L generalizing i with
 | nil=>right;exact⟨rfl,rfl⟩
 | cons y r ih=>
  have h0:=h 0 (by simp);simp only[Nat.add_zero,List.getElem_cons_zero]at h0;rw[List.length_cons,f9,List.find?_cons];cases hd:decide (y.lab.name=s) with
  | true=>
   rw[hd]at h0;rw[if_pos h0];left;exact⟨y,rfl,by simp,by omega,Nat.le_refl _⟩
  | false=>
   rw[hd]at h0;rw[if_neg (by rw[h0];decide)];rcases ih (i+1) (λj hj=>by have h9:=h (j+1) (by simpa using hj);rw[show i+(j+1)=i+1+j by omega]at h9;simpa using h9) with⟨z,h1,h2,h3,h4⟩ | ⟨h1,h2⟩
   ·left
    refine⟨z,h1,?_,by omega,by omega⟩;rw[show f9 p r.length (i+1)-i=f9 p r.length (i+1)-(i+1)+1 by omega];simpa using h2
   ·right
    exact⟨h1,by omega⟩
theorem Ad(w:World)(m:Mk)(s:List Nat)(v:Value)(g:Nat)(hg:w.cell? ⟨g,0,none⟩=some (.string (bJ s)))(ha:∀b∈m.name,b<256)(hb:∀b∈s,b<256):
  Calls Tryz.prog 57 #[.agg (jA m v),.pointer (some ⟨g,0,none⟩)] w λe w'=>e=.returned (.bool (decide (m.name=s)))/\Same w w':=by
 have Us:∀o,(w.alloc o).cell? ⟨g,0,none⟩=some (.string (bJ s)):=λo=>(show Same w (w.alloc o) from(Kept.refl _ w).alloc o).cell hg (λf=>f)
 have hq:=ur m.name s ha hb;obtain⟨B,hB⟩:∃B,B=decide (m.name=s):=⟨_,rfl⟩
 rw[<-hB]at hq ⊢;clear hB;unfold jA;go_enter Tryz.func57,Tryz.ntmps57;go_wp2_with fail;go_ret;exact⟨rfl,(Kept.refl _ w).alloc _⟩
theorem Tryz.entersFind2:∀args w,(callFunc 57 args).run Tryz.prog w=.ok (.enter 57 args) w:=enters_of Tryz.func57 (by kernel_rfl) rfl
def FdA(w w':World)(o:Except Nat (List Nat))(e:Ending):Prop:=
 (∀k,o=.error k->e=.returned (.tuple #[.string ⟨#[]⟩,.int .i64 (k:Nat)]))/\(∀d,o=.ok d->e=.returned (.tuple #[.string (bJ d),.int .i64 0]))/\Same w w'
theorem FdA.bad{w w':World}{o:Except Nat (List Nat)}{e:Ending}{k:Nat}(h:o=.error k)(he:e=.returned (.tuple #[.string ⟨#[]⟩,.int .i64 (k:Nat)]))(hk:Same w w'):FdA w w' o e:=
 ⟨λn h'=>by rw[h]at h';simp only[Except.error.injEq]at h';subst h';exact he,λd h'=>(by rw[h]at h';cases h'),hk⟩
theorem vm(w:World)(a:Option Addr)(n c:Nat)(bs:List Nat)(s:List Nat)(hs:Src w (fun k=>k<w.heap.size) (.slice a n c) bs)(hL:n=bs.length)(hb:∀x∈bs,x<256)(cE:n≤c)(hn:n≤100000000)(Uy:∀x∈s,x<256)(hx:Mxl w)(hU:∀L,g6 bs=.ok L→UnpOk w L):
  Calls Tryz.prog 21 #[.slice a n c,.string (bJ s)] w λe w'=>FdA w w' (AA bs s) e:=by
 have Nh:∀(fn:Fn) (first cap:Array Value) (w:World),(Instr.makeFunc fn first cap).run Tryz.prog w=.ok (.func fn first cap) w:=λ_ _ _ _=>rfl
 obtain⟨W1,hW1⟩:∃W,W=(w.alloc (.cells #[.string (bJ s)] 9)).alloc (.cells #[.int .i64 0] 27):=⟨_,rfl⟩
 obtain⟨nb,hnb⟩:∃b,b=w.heap.size:=⟨_,rfl⟩
 obtain⟨eb,Cl⟩:∃b,b=w.heap.size+1:=⟨_,rfl⟩
 have HK1:Hid (Same w W1):=hid (by rw[hW1];exact((Kept.refl _ w).alloc _).alloc _);have HB1:Hid (Blk W1 eb #[.int .i64 0] 27):=hid (by rw[hW1,Cl];have h9:=Blk.new (w.alloc (.cells #[.string (bJ s)] 9)) #[.int .i64 0] 27;rw[World.size_alloc]at h9;exact h9);have HN1:Hid (Blk W1 nb #[.string (bJ s)] 9):=hid (by rw[hW1,hnb];exact(Blk.new w _ _).kept (show Same _ _ from(Kept.refl _ _).alloc _) (λf=>f));have HO:=pU W1 a n c bs ((hs.kept HK1.out (λ_ _ _ f=>f)).mono (λk hk=>Nat.lt_of_lt_of_le hk HK1.out.size)) hL hb cE hn (hx.kept HK1.out (λf=>f));have HEB:Hid (eb=w.heap.size+1):=Cl;have HU:Hid (∀L,g6 bs=.ok L->UnpOk w L):=hU;have HSB:Hid (∀x∈s,x<256):=Uy;clear hs hL hb cE hx hU Uy;go_enter_defers Tryz.func21,Tryz.ntmps21;go_wp2_with fail;rw[<-hW1,<-Cl,<-hnb];clear hW1 Cl hnb;refine HO.mono ?_;intro e w1 h1;obtain⟨fX,eQ,hk1⟩:=h1;have HB2:Hid (Blk w1 eb #[.int .i64 0] 27):=hid (HB1.out.kept hk1 (λf=>f));have HN2:Hid (Blk w1 nb #[.string (bJ s)] 9):=hid (HN1.out.kept hk1 (λf=>f));have HK2:Hid (Same w w1):=hid (Same.trans HK1.out hk1);have HDIE:Hid (∀(w2:World) (k:Nat),Same w1 w2->AA bs s=.error k->Blk w2 eb #[.int .i64 0] 27/\Same w (w2.setCell ⟨eb,0,none⟩ (.int .i64 (k:Nat)))/\(w2.setCell ⟨eb,0,none⟩ (.int .i64 (k:Nat))).cell? ⟨eb,0,none⟩=some (.int .i64 (k:Nat))):=hid (λw2 k hk _=>by
  have hb:=HB2.out.kept hk (λf=>f);refine⟨hb,(Same.trans HK2.out hk).setCell _ _ (.inr (by have h9:=HEB.out;show w.heap.size<=eb;omega)),?_⟩;have:=(hb.set 0 (.int .i64 (k:Nat))).cell 0;simpa using this)
 cases ho:g6 bs with
 | error k=>
  obtain rfl:=fX k ho;have HE:Hid (AA bs s=.error k):=hid (by unfold AA;rw[ho]);clear hk1 HO fX eQ ho;unfold aH;go_wp2_with fail;obtain⟨hb2,hkf,d0⟩:=HDIE.out w1 k (Kept.refl _ _) HE.out;refine leaves_cons (f:=55) (args:=#[.pointer (some ⟨eb,0,none⟩)]) (by simp) (by simp[go_sem]) ?_;refine(ff eb 0 k w1 (hb2.cell 0) (hb2.frozen 0)).mono ?_;rintro e u' w'' ⟨rfl,rfl,rfl⟩;simp[Leaves,settle,results,Tryz.results21,go_sem,d0];exact FdA.bad HE.out rfl hkf
 | ok L=>
  obtain⟨a1,n1,c1,xs,rfl,hr1,hi1,hn1,eS,Ew⟩:=eQ L ho;have HE:Hid (AA bs s=D5 L s):=hid (by unfold AA;rw[ho]);have HUL:Hid (UnpOk w L):=hid (HU.out L ho);have HIX:=qA w1 a1 n1 c1 _ _ 57 nb (λi=>decide ((xs.getD i default).m.name=s)) (Itms.ofRow hr1 hn1) (by omega) Tryz.entersFind2 (λi wx hi hk=>Ad wx _ s _ nb ((HN2.out.kept hk (λf=>f)).cell 0) (hi1.nam i (by omega)) HSB.out);have Rp:=GK L s (λi=>decide ((xs.getD i default).m.name=s)) 0 (λj hj=>by
   have Ul:j<xs.length:=(by rw[hi1.1];exact hj);have e:xs.getD j default=xs[j]:=(by rw[List.getD_eq_getElem?_getD,List.getElem?_eq_getElem Ul];rfl);have:=(hi1.2 j _ _ (List.getElem?_eq_getElem Ul) (List.getElem?_eq_getElem hj)).lab;simp only[Nat.zero_add];rw[e,this])
  have Td:n1=L.length:=(by rw[hn1];exact hi1.1);rw[<-Td]at Rp;simp only[Nat.zero_add,Nat.sub_zero]at Rp;obtain⟨ix,MC⟩:∃x,x=I8 (λi=>decide ((xs.getD i default).m.name=s)) n1:=⟨_,rfl⟩
  rw[<-MC]at HIX;unfold I8 at MC;have HR1:Hid (RowC W1.heap.size 78 6 mJ w1 (.slice a1 n1 c1) xs):=hr1;have HI1:Hid (Its W1.heap.size w1 xs L):=hi1;have HN:Hid (n1=xs.length/\n1=L.length):=hid ⟨hn1,Td⟩;clear hk1 HO fX eQ ho hr1 hi1 hn1 eS Td;rcases Rp with⟨y,h1,h2,h3,_⟩ | ⟨h1,h2⟩
  ·rw[if_pos h3]at MC;obtain⟨i,hi⟩:∃i,i=f9 (λi=>decide ((xs.getD i default).m.name=s)) n1 0:=⟨_,rfl⟩
   rw[<-hi]at MC h2 h3;subst MC;have HE:Hid (AA bs s=dV y):=hid (by rw[HE.out];unfold D5;rw[h1]);have hx:=List.getElem?_eq_getElem (l:=xs) (i:=i) (by have:=HN.out;omega);obtain⟨x,EN⟩:∃x,x=xs[i]'(by have:=HN.out;omega):=⟨_,rfl⟩
   rw[<-EN]at hx;have HAT:Hid (ItAt W1.heap.size w1 x y):=hid (HI1.out.2 i x y hx h2);have HYL:Hid (y∈L):=hid (List.mem_of_getElem? h2);obtain⟨g,cap,hv,_,hc⟩:=HR1.out.at8 qJ i (by have:=HN.out;omega);rw[<-EN]at hc;simp only[Value.slice.injEq]at hv;have fC:=hv.1;clear hv;subst fC;have HCX:Hid (∀(wr:World),Same w1 wr->∀k u,k<6->(mJ x)[k]? = some u->wr.cell? ⟨g,i*6+k,none⟩=some u):=hid (λwr hk k u h1 h2=>hk.cell ((hc k h1).trans h2) (λf=>f));have i1:(0:Int)<=(i:Int):=(by omega);have i2:(i:Int)<(n1:Int):=(by omega);have i3:decide ((0:Int)<=(i:Int))=true:=(by simp);clear hi h1 h2 hx EN hc;go_wp2_with fail;refine HIX.mono ?_;rintro e w2 ⟨rfl,hk2⟩;have HS2:Hid (Same w1 w2):=hk2;have HO:=bl w2 (.int .i64 85);have k0:=HCX.out w2 hk2 0 _ (by decide) rfl;have k1:=HCX.out w2 hk2 1 _ (by decide) rfl;have k2:=HCX.out w2 hk2 2 _ (by decide) rfl;have k3:=HCX.out w2 hk2 3 _ (by decide) rfl;have k4:=HCX.out w2 hk2 4 _ (by decide) rfl;have k5:=HCX.out w2 hk2 5 _ (by decide) rfl;rw[Nat.add_zero]at k0;have HC:=HUL.out W1.heap.size w2 x y HYL.out (HAT.out.kept hk2 (λ_ _ f=>f)) (Same.trans HK2.out hk2);unfold jA at HC;clear hk2 HIX;go_wp2_with fail;refine HO.mono ?_;rintro e w3 ⟨rfl,hw3⟩;subst hw3;clear HO;go_wp2_with fail;refine HC.mono ?_;intro e w4 h4;obtain⟨eQ,fX,hk4⟩:=h4;have HS4:Hid (Same w1 w4):=hid (Same.trans HS2.out hk4);cases hu:dV y with
   | error k=>
    obtain rfl:=fX k hu;have HE:Hid (AA bs s=.error k):=hid (by rw[HE.out,hu]);clear eQ fX hk4 hu HC k0 k1 k2 k3 k4 k5;unfold aH;go_wp2_with fail;obtain⟨hb2,hkf,d0⟩:=HDIE.out w4 k HS4.out HE.out;refine leaves_cons (f:=55) (args:=#[.pointer (some ⟨eb,0,none⟩)]) (by simp) (by simp[go_sem]) ?_;refine(ff eb 0 k w4 (hb2.cell 0) (hb2.frozen 0)).mono ?_;rintro e u' w'' ⟨rfl,rfl,rfl⟩;simp[Leaves,settle,results,Tryz.results21,go_sem,d0];exact FdA.bad HE.out rfl hkf
   | ok d=>
    obtain rfl:=eQ d hu;have HE:Hid (AA bs s=.ok d):=hid (by rw[HE.out,hu]);have HB3:Hid (Blk w4 eb #[.int .i64 0] 27):=hid (HB2.out.kept HS4.out (λf=>f));have XF:w4.cell? ⟨eb,0,none⟩=some (.int .i64 0):=HB3.out.cell 0;have z0:=HB3.out.frozen 0;clear eQ fX hk4 hu HC k0 k1 k2 k3 k4 k5;go_wp2_with fail;obtain⟨w3,hw3⟩:∃W,W=w4.setCell ⟨eb,0,none⟩ (.int .i64 0):=⟨_,rfl⟩
    have hb3:Blk w3 eb #[.int .i64 0] 27:=(by rw[hw3];have:=HB3.out.set 0 (.int .i64 0);simpa using this);have HKF:Hid (Same w (w3.setCell ⟨eb,0,none⟩ (.int .i64 0))):=hid (by rw[hw3];exact((Same.trans HK2.out HS4.out).setCell _ _ (.inr (by have h9:=HEB.out;show w.heap.size<=eb;omega))).setCell _ _ (.inr (by have h9:=HEB.out;show w.heap.size<=eb;omega)));have d0:(w3.setCell ⟨eb,0,none⟩ (.int .i64 0)).cell? ⟨eb,0,none⟩=some (.int .i64 0):=(by have:=(hb3.set 0 (.int .i64 0)).cell 0;simpa using this);rw[<-hw3];refine leaves_cons (f:=55) (args:=#[.pointer (some ⟨eb,0,none⟩)]) (by simp) (by simp[go_sem]) ?_;refine(vI eb 0 w3 (hb3.cell 0) (hb3.frozen 0)).mono ?_;rintro e u' w'' ⟨rfl,rfl,rfl⟩;simp[Leaves,settle,results,Tryz.results21,go_sem,d0];exact⟨λk' e=>(by rw[HE.out]at e;cases e),λD' e=>by rw[HE.out]at e;simp only[Except.ok.injEq]at e;subst e;rfl,HKF.out⟩
  ·rw[if_neg (by omega)]at MC;subst MC;have HE:Hid (AA bs s=.error 85):=hid (by rw[HE.out];unfold D5;rw[h1]);clear h1 h2;go_wp2_with fail;refine HIX.mono ?_;rintro e w2 ⟨rfl,hk2⟩;have HS2:Hid (Same w1 w2):=hk2;have HO:=aL w2 85;clear hk2 HIX;go_wp2_with fail;refine HO.mono ?_;rintro e w3 ⟨rfl,hw3⟩;subst hw3;clear HO;unfold aH;go_wp2_with fail;obtain⟨hb2,hkf,d9⟩:=HDIE.out w3 85 HS2.out HE.out;have d0:(w3.setCell ⟨eb,0,none⟩ (.int .i64 85)).cell? ⟨eb,0,none⟩=some (.int .i64 85):=d9;refine leaves_cons (f:=55) (args:=#[.pointer (some ⟨eb,0,none⟩)]) (by simp) (by simp[go_sem]) ?_;refine(ff eb 0 85 w3 (hb2.cell 0) (hb2.frozen 0)).mono ?_;rintro e u' w'' ⟨rfl,rfl,rfl⟩;simp[Leaves,settle,results,Tryz.results21,go_sem,d0];exact FdA.bad HE.out rfl hkf
theorem Eh(w:World)(v:Value)(I:Nat→Prop)(cs:List Nat)(hsrc:Src w I v cs)(ag:cs.length≤100000000):
  Calls Tryz.prog 18 #[v] w λe w'=>∃g,e=.returned (.slice (some ⟨g,0,none⟩) cs.length (cs.length+1))/\Row w' (.slice (some ⟨g,0,none⟩) (cs.length+1) (cs.length+1)) (cs++[99])/\Kept (λ_=>False) w w'/\w.heap.size<=g:=by
 obtain⟨ao,cap,rfl,_⟩:=id hsrc;have HS:Hid (Src w I (.slice ao cs.length cap) cs):=hsrc;clear hsrc;go_enter Tryz.func18,Tryz.ntmps18;go_wp2_with (first | (at_make;refine eK _ rfl _ _ rfl _ _ _ _ (cs.length+1) rfl rfl (by omega) (by omega) (by omega) ?_;intro w1 hr1 pO hs1;have HR:Hid (Row w1 (.slice (some ⟨w.heap.size,0,none⟩) (cs.length+1) (cs.length+1)) (List.replicate (cs.length+1) 0)):=hr1;have HK:Hid (Kept (λ_=>False) w w1):=(Kept.refl _ w).grown pO (by simp);clear hr1 pO) | (with_reducible refine ov ?_;refine dH _ rfl (.tmp 8) (.tmp 9) rfl w.heap.size (cs.length+1) (cs.length+1) ao cs.length cap (List.replicate (cs.length+1) 0) cs I rfl rfl HR.out (HS.out.kept HK.out (λ_ _ _ h=>h)) (by simp) ?_));intro w2 hr2 rK hs2;have hr3:Row w2 (.slice (some ⟨w.heap.size,0,none⟩) (cs.length+1) (cs.length+1)) (cs++[0]):=by simpa using hr2
 have c1:w2.cell? ⟨w.heap.size,cs.length,none⟩=some (.int .u8 0):=by rw[Row.cell' hr3 cs.length (by simp)];simp
 have f1:w2.frozen? ⟨w.heap.size,cs.length,none⟩=false:=Row.frozen' hr3 _;have HR2:Hid (Row w2 (.slice (some ⟨w.heap.size,0,none⟩) (cs.length+1) (cs.length+1)) (cs++[0])):=hr3;have HK2:Hid (Kept (λ_=>False) w w2):=HK.out.grown rK (λk e=>.inr (by simp at e;omega));clear hr2 hr3 rK hs2 HR HK;go_wp2_with fail;go_ret;refine⟨w.heap.size,rfl,?_,HK2.out.setCell _ _ (.inr (Nat.le_refl _)),Nat.le_refl _⟩;have h:=Row.lay HR2.out cs.length 99;rw[Mv _ _ _ _ _ rfl]at h;exact h
theorem Ents.ofRow{B:Nat}{w:World}{a:Option Addr}{n c:Nat}{ys:List En}(h:RowC B 34 2 yl w (.slice a n c) ys)(hn:n=ys.length):Ents w (λ_=>True) a n (λj=>ys.getD j default):=by
 subst hn;intro j hj;obtain⟨g,cap,hv,_,hc⟩:=h.at8 G6 j hj;simp only[Value.slice.injEq]at hv;have e:ys.getD j default=ys[j]:=by rw[List.getD_eq_getElem?_getD,List.getElem?_eq_getElem hj];rfl
 simp only[e];refine⟨g,0,hv.1,trivial,?_,?_⟩
 ·have:=hc 0 (by decide);simpa[yl]using this
 ·have:=hc 1 (by decide);simpa[yl]using this
theorem ru(w:World)(a b:Option Addr)(n c d:Nat)(E:Nat→En)(I J:Nat→Prop)(ha:Ents w I a n E)(hb:Ents w J b n E)(hn:n≤100000000):
  Calls Tryz.prog 27 #[.slice a n c,.slice b n d] w λe w'=>e=.returned (.bool true)/\Same w w':=by
 have HA:Hid (Ents w I a n E):=ha;have HB:Hid (Ents w J b n E):=hb;have VV:((n:Int)==(n:Int))=true:=by simp
 clear ha hb;go_enter Tryz.func27,Tryz.ntmps27;go_wp2_with fail;go_loopg [5] n (λk z wr=>∃i:Nat,n-i<=k/\i<=n/\z=.int .i64 (i:Nat)/\Hid (Same w wr))
 case atStart=>exact⟨0,by omega,by omega,rfl,hid (Kept.refl _ _)⟩
 case round=>
  obtain⟨i,hk,Ck,rfl,HK⟩:=hrel;by_cases hlt:i<n
  ·have mM:decide (i<n)=true:=(by simp;omega);obtain⟨g1,o1,e1,_,c0,c1⟩:=HA.out i hlt;obtain⟨g2,o2,e2,_,d0,d1⟩:=HB.out i hlt;subst e1;subst e2;have c0:=HK.out.cell c0 (λf=>f);have c1:=HK.out.cell c1 (λf=>f);have d0:=HK.out.cell d0 (λf=>f);have d1:=HK.out.cell d1 (λf=>f);obtain⟨y,hy⟩:∃y,y=E i:=⟨_,rfl⟩
   rw[<-hy]at c0 c1 d0 d1;have q0:(y.n.toList==y.n.toList)=true:=(by simp);have q1:(y.d.toList==y.d.toList)=true:=(by simp);have EL:IntKind.i64.wrap ((i:Int)+1)=((i+1:Nat):Int):=(by rw[IntKind.wrap_i64];omega);have i1:(0:Int)<=(i:Int):=(by omega);have i2:(i:Int)<(n:Int):=(by omega);clear hy;go_wp2_with fail;go_quiet (fail);go_wp2_with fail;go_roundg (gk-1)
   case measure=>omega
   case rel=>exact⟨i+1,by omega,by omega,by go_num,hid (HK.out.drewN _)⟩
  ·have mM:decide (i<n)=false:=(by simp;omega);go_wp2_with fail;go_ret;exact⟨rfl,HK.out⟩
end Go.Proofs.YtljlmfnbeofmmaaGreatDoor
namespace Go.Proofs.YtljlmfnbeofmmaaGreatDoor
theorem wU{a b:List Nat}{n:Nat}(ha:n<=a.length)(hb:n<=b.length):n<=(bX a b).length:=by unfold bX;split<;>assumption
theorem Jw(ts:List TK):17<=(rU ts).length:=by
 unfold rU kO bz;simp only[List.length_append,List.length_cons,List.length_nil];have h1:∀v n,(aj v n).length=n:=λv n=>af v n
 rw[h1,h1,h1];omega
theorem Ao{data bs:List Nat}(h:PDef data bs)(hf:17<=(dJ (cY data)).length):¬bs.length<3:=by obtain⟨x2,x3,rfl,h2,h3⟩:=h;have g2:=h2.1.len;have g3:=h3.1.1.len;have g4:=Jw (cY data);have:3<=(bX (bX (bH data) x2) x3).length:=wU (wU (by simp[bH]) (by omega)) (by omega);omega
theorem JB:17<=(dJ (cY [111,110,101])).length:=by decide +kernel
theorem JK:17<=(dJ (cY [116,119,111])).length:=by decide +kernel
def FL:ByteArray:=⟨#[111,110,101]⟩
def Hb:ByteArray:=⟨#[116,119,111]⟩
def a8:ByteArray:=⟨#[97]⟩
def NC:ByteArray:=⟨#[98,47,99]⟩
def Ld:ByteArray:=⟨#[]⟩
def Jb(j:Nat):En:=if j=0 then⟨a8,FL⟩ else⟨NC,Hb⟩
def Qk(_:Nat):En:=⟨a8,Ld⟩
theorem pH:fA Jb 2=0:=by decide +kernel
theorem Cj:fA Qk 2=80:=by decide +kernel
theorem tm{y:En}{bs:List Nat}(h:PDef (sb y.d) bs)(hd:y.d.size=3)(hf:17<=(dJ (cY (sb y.d))).length):(ey y bs).way=0/\dV ⟨ey y bs,dU y bs⟩=.ok (sb y.d):=by
 have h3:=Ao h hf;have e1:(ey y bs).way=0:=by simp only[ey];rw[if_neg (by omega)]
 have e2:dU y bs=sb y.d:=by simp only[dU];rw[if_neg (by omega)]
 refine⟨e1,?_⟩;unfold dV;rw[if_neg (by rw[e1];decide)];simp only;rw[e2,show(ey y bs).sum=more 0 (sb y.d)from rfl,if_pos rfl]
theorem JI{L:List It}(h:ji Jb 2 L):(∀y∈L,y.lab.way=0)/\g6 (d8 L)=.ok L/\FK (d8 L)=.ok [(sb a8,sb FL),(sb NC,sb Hb)]:=by
 obtain⟨hl,hj⟩:=h
 match L,hl with
 | [x0,x1],_=>
  obtain⟨b0,p0,e0⟩:=hj 0 x0 rfl;obtain⟨b1,p1,e1⟩:=hj 1 x1 rfl;have t0:=tm (y:=Jb 0) p0 rfl JB;have t1:=tm (y:=Jb 1) p1 rfl JK;rw[<-e0]at t0;rw[<-e1]at t1;have Jo:=ku (E:=Jb) (len:=2) (L:=[x0,x1]) ⟨rfl,hj⟩ pH;have VG:x0.lab.way=0:=(by have:=t0.1;rw[e0];exact this);have Yp:x1.lab.way=0:=(by have:=t1.1;rw[e1];exact this);refine⟨λy hy=>?_,Jo,?_⟩
  ·simp only[List.mem_cons,List.not_mem_nil,or_false]at hy;rcases hy with rfl | rfl
   ·exact VG
   ·exact Yp
  ·unfold FK;rw[Jo];simp only[iW,t0.2,t1.2];have n0:x0.lab.name=sb a8:=(by rw[e0];rfl);have n1:x1.lab.name=sb NC:=(by rw[e1];rfl);rw[n0,n1];rfl
theorem Mr{E:Nat->En}{L:List It}(h:ji E 0 L):d8 L=fd 0 0 0:=by have:L=[]:=List.eq_nil_of_length_eq_zero h.1;subst this;rfl
theorem L0:g6 (fd 0 0 0++[0])=.error 81:=by
 have h1:(fd 0 0 0++[0]).length=23:=by decide +kernel
 have h2:nm ((fd 0 0 0++[0]).drop 1)=none:=by decide +kernel
 unfold g6;rw[h1,if_neg (by decide),if_neg (by decide),ep h2]
end Go.Proofs.YtljlmfnbeofmmaaGreatDoor
namespace Go.Proofs.YtljlmfnbeofmmaaGreatDoor
open Go.RowKit
def uu(m:Mk):List Value:=[.string (bJ m.name),.int .i64 (m.size:Nat),.int .i64 (m.packed:Nat),.int .u32 (m.sum:Nat),.int .i64 (m.way:Nat)]
theorem FJ:dN uu 5:=⟨λ_=>rfl,λx u hu=>by simp[uu]at hu;rcases hu with rfl | rfl | rfl | rfl | rfl<;>rfl,by decide⟩
theorem Tryz.infoInfo:(Tryz.prog.info? 50).map (λi=>(i.zero,i.size,i.bytes))=some (some (.agg #[.string ⟨#[]⟩,.int .i64 0,.int .i64 0,.int .u32 0,.int .i64 0]),5,48):=by kernel_rfl
theorem zZ(w:World)(m:Mk):aV (w.alloc (.cells #[.string (bJ m.name),.int .i64 (m.size:Nat),.int .i64 (m.packed:Nat),.int .u32 (m.sum:Nat),.int .i64 (m.way:Nat)] 50)) ⟨w.heap.size,0,none⟩ ([m].flatMap uu):=by
 intro j u hj
 match j,hj with
 | 0,hj=>simp[uu]at hj;subst hj;simp[cw]
 | 1,hj=>simp[uu]at hj;subst hj;simp[cw]
 | 2,hj=>simp[uu]at hj;subst hj;simp[cw]
 | 3,hj=>simp[uu]at hj;subst hj;simp[cw]
 | 4,hj=>simp[uu]at hj;subst hj;simp[cw]
 | j+5,hj=>simp[uu]at hj
def U8(w w':World)(o:Except Nat (List It))(e:Ending):Prop:=
 (∀k,o=.error k->e=.returned (.tuple #[.slice none 0 0,.int .i64 (k:Nat)]))/\(∀L,o=.ok L->∃a n c,e=.returned (.tuple #[.slice a n c,.int .i64 0])/\RowC w.heap.size 50 5 uu w' (.slice a n c) (L.map (·.lab))/\n=L.length)/\Same w w'
structure Tm(w wr:World)(eb:Nat)(L:List It)(i:Nat)(v:Value):Prop where
 row:RowC w.heap.size 50 5 uu wr v ((L.take i).map (·.lab))
 blk:Blk wr eb #[.int .i64 0] 27
 same:Same w wr
theorem x8(w:World)(a:Option Addr)(n c:Nat)(bs:List Nat)(hs:Src w (fun k=>k<w.heap.size) (.slice a n c) bs)(hL:n=bs.length)(hb:∀x∈bs,x<256)(cE:n≤c)(hn:n≤100000000)(hx:Mxl w):
  Calls Tryz.prog 19 #[.slice a n c] w λe w'=>U8 w w' (g6 bs) e:=by
 have Nh:∀(fn:Fn) (first cap:Array Value) (w:World),(Instr.makeFunc fn first cap).run Tryz.prog w=.ok (.func fn first cap) w:=λ_ _ _ _=>rfl
 obtain⟨W1,hW1⟩:∃W,W=w.alloc (.cells #[.int .i64 0] 27):=⟨_,rfl⟩
 obtain⟨eb,Cl⟩:∃b,b=w.heap.size:=⟨_,rfl⟩
 have HK1:Hid (Same w W1):=hid (by rw[hW1];exact(Kept.refl _ w).alloc _);have HB1:Hid (Blk W1 eb #[.int .i64 0] 27):=hid (by rw[hW1,Cl];exact Blk.new w _ _);have HO:=pU W1 a n c bs ((hs.kept HK1.out (λ_ _ _ f=>f)).mono (λk hk=>Nat.lt_of_lt_of_le hk HK1.out.size)) hL hb cE hn (hx.kept HK1.out (λf=>f));have HEB:Hid (eb=w.heap.size):=Cl;clear hs hL hb cE hx;go_enter_defers Tryz.func19,Tryz.ntmps19;go_wp2_with fail;rw[<-hW1,<-Cl];clear hW1 Cl;refine HO.mono ?_;intro e w1 h1;obtain⟨fX,eQ,hk1⟩:=h1;have HB2:Hid (Blk w1 eb #[.int .i64 0] 27):=hid (HB1.out.kept hk1 (λf=>f));have HK2:Hid (Same w w1):=hid (Same.trans HK1.out hk1);cases ho:g6 bs with
 | error k=>
  obtain rfl:=fX k ho;have HE:Hid (g6 bs=.error k):=ho;clear hk1 HO fX eQ ho;unfold aH;go_wp2_with fail;have c0:w1.cell? ⟨eb,0,none⟩=some (.int .i64 0):=HB2.out.cell 0;have z0:=HB2.out.frozen 0;have d0:(w1.setCell ⟨eb,0,none⟩ (.int .i64 (k:Nat))).cell? ⟨eb,0,none⟩=some (.int .i64 (k:Nat)):=(by have:=(HB2.out.set 0 (.int .i64 (k:Nat))).cell 0;simpa using this);have HKF:Hid (Same w (w1.setCell ⟨eb,0,none⟩ (.int .i64 (k:Nat)))):=hid (HK2.out.setCell _ _ (.inr (by have h9:=HEB.out;show w.heap.size<=eb;omega)));refine leaves_cons (f:=49) (args:=#[.pointer (some ⟨eb,0,none⟩)]) (by simp) (by simp[go_sem]) ?_;refine(om eb 0 k w1 c0 z0).mono ?_;rintro e u' w'' ⟨rfl,rfl,rfl⟩;simp[Leaves,settle,results,Tryz.results19,go_sem,d0];exact⟨λk' e=>by rw[HE.out]at e;simp only[Except.error.injEq]at e;subst e;rfl,λD e=>(by rw[HE.out]at e;cases e),HKF.out⟩
 | ok L=>
  obtain⟨a1,n1,c1,xs,rfl,hr1,hi1,hn1,eS,Ew⟩:=eQ L ho;have HE:Hid (g6 bs=.ok L):=ho;have HR1:Hid (RowC W1.heap.size 78 6 mJ w1 (.slice a1 n1 c1) xs):=hr1;have HI1:Hid (Its W1.heap.size w1 xs L):=hi1;have HN:Hid (n1=xs.length/\n1=L.length):=hid ⟨hn1,by rw[hn1];exact hi1.1⟩;clear hk1 HO fX eQ ho hr1 hi1 hn1 eS;go_wp2_with fail;go_loopg [2,10] n1 (λqq z2 z10 wr=>∃(i:Nat),z10=.int .i64 (i:Nat)/\i<=n1/\n1-i<=qq/\Hid (Tm w1 wr eb L i z2))
  case atStart=>exact⟨0,rfl,by omega,by omega,hid ⟨RowC.nil,HB2.out,Kept.refl _ _⟩⟩
  case round=>
   obtain⟨i,rfl,hi1,NA,HI⟩:=hrel;obtain⟨v0,tE⟩:∃v,v=u2:=⟨_,rfl⟩
   rw[<-tE]at HI;rw[<-tE];clear tE;obtain⟨a0,c0,tE,_⟩:=HI.out.row.shape;rw[List.length_map,List.length_take,Nat.min_eq_left (by have:=HN.out;omega)]at tE;subst tE;by_cases hi:i<n1
   ·have mM:decide (i<n1)=true:=(by simp;omega);have hx:=List.getElem?_eq_getElem (l:=xs) (i:=i) (by have:=HN.out;omega);have hy:=List.getElem?_eq_getElem (l:=L) (i:=i) (by have:=HN.out;omega);obtain⟨x,EN⟩:∃x,x=xs[i]'(by have:=HN.out;omega):=⟨_,rfl⟩
    obtain⟨y,PG⟩:∃y,y=L[i]'(by have:=HN.out;omega):=⟨_,rfl⟩
    rw[<-EN]at hx;rw[<-PG]at hy;obtain⟨g,cap,hv,_,hc⟩:=HR1.out.at8 qJ i (by have:=HN.out;omega);rw[<-EN]at hc;simp only[Value.slice.injEq]at hv;have fC:=hv.1;clear hv;subst fC;have rI:∀k u,k<6->(mJ x)[k]? = some u->wr.cell? ⟨g,i*6+k,none⟩=some u:=λk u h1 h2=>HI.out.same.cell ((hc k h1).trans h2) (λf=>f)
    have k0:=rI 0 _ (by decide) rfl;have k1:=rI 1 _ (by decide) rfl;have k2:=rI 2 _ (by decide) rfl;have k3:=rI 3 _ (by decide) rfl;have k4:=rI 4 _ (by decide) rfl;have k5:=rI 5 _ (by decide) rfl;rw[Nat.add_zero]at k0;have EL:IntKind.i64.wrap ((i:Int)+1)=((i+1:Nat):Int):=(by rw[IntKind.wrap_i64];omega);have i1:(0:Int)<=(i:Int):=(by omega);have i2:(i:Int)<(n1:Int):=(by omega);have HAT:=HI1.out.2 i x y hx hy;have HXL:Hid (x.m=y.lab/\L[i]? = some y):=hid ⟨HAT.lab,hy⟩;obtain⟨wA,mP⟩:∃W,W=wr.alloc (.cells (jA x.m (.slice x.a x.n x.c)) 78):=⟨_,rfl⟩
    obtain⟨xb,ir⟩:∃b,b=wr.heap.size:=⟨_,rfl⟩
    have HKA:Hid (Same wr wA):=hid (by rw[mP];exact(Kept.refl _ wr).alloc _);have HXA:Hid (Blk wA xb (jA x.m (.slice x.a x.n x.c)) 78):=hid (by rw[mP,ir];exact Blk.new wr _ _);have HC:=Fv wA x.m (.slice x.a x.n x.c) (by rw[HAT.lab];exact HAT.ok);clear EN PG hx hy hc rI HAT;unfold jA at mP HC HXA;have q0:wA.cell? ⟨xb,0,none⟩=some (.int .u16 (x.m.way:Nat)):=HXA.out.cell 0;have q1:wA.cell? ⟨xb,1,none⟩=some (.int .u32 (x.m.sum:Nat)):=HXA.out.cell 1;have q2:wA.cell? ⟨xb,2,none⟩=some (.int .u32 (x.m.packed:Nat)):=HXA.out.cell 2;have q3:wA.cell? ⟨xb,3,none⟩=some (.int .u32 (x.m.size:Nat)):=HXA.out.cell 3;have q4:wA.cell? ⟨xb,4,none⟩=some (.string (bJ x.m.name)):=HXA.out.cell 4;have q5:wA.cell? ⟨xb,5,none⟩=some (.slice x.a x.n x.c):=HXA.out.cell 5;go_wp2_with fail;rw[<-mP,<-ir];clear mP ir;refine HC.mono ?_;rintro e w4 ⟨rfl,hk4⟩;have HK4:Hid (Same wr w4):=hid (Same.trans HKA.out hk4);have HR4:Hid (RowC w1.heap.size 50 5 uu w4 (.slice a0 i c0) ((L.take i).map (·.lab))):=hid (HI.out.row.kept HK4.out (λ_ _ f=>f));clear hk4 HC q0 q1 q2 q3 q4 q5 k0 k1 k2 k3 k4 k5;go_wp2_with (at_builtin;refine ea _ uu 5 FJ (by decide) w1.heap.size 38 50 (.agg #[.string ⟨#[]⟩,.int .i64 0,.int .i64 0,.int .u32 0,.int .i64 0]) 48 Tryz.underlying38 Tryz.infoInfo rfl (by decide) rfl (.tmp 14) (.tmp 17) rfl (.slice a0 i c0) ((L.take i).map (·.lab)) rfl (HR4.out.kept (show Same _ _ from(Kept.refl _ _).alloc _) (λ_ _ f=>f)) ⟨w4.heap.size,0,none⟩ 1 1 [x.m] rfl rfl (zZ w4 x.m) (by rw[List.length_map,List.length_take];simp;omega) (by have:=HI.out.same.size;have:=HK4.out.size;simp;omega) ?_;intro v8 w8 hr8 LP);obtain⟨wB,yr⟩:∃W,W=w4.alloc (.cells #[.string (bJ x.m.name),.int .i64 (x.m.size:Nat),.int .i64 (x.m.packed:Nat),.int .u32 (x.m.sum:Nat),.int .i64 (x.m.way:Nat)] 50):=⟨_,rfl⟩
    have Ib:wB.grownBy w8 (Value.slice a0 i c0).ownBlock:=(by rw[yr];exact LP);have uZ:Same w4 wB:=(by rw[yr];exact(Kept.refl _ w4).alloc _);have hk8:Kept (λk=>(Value.slice a0 i c0).ownBlock=some k) wB w8:=(Kept.refl _ wB).grown Ib (λk e=>.inl e);have HF:Hid (Tm w1 w8 eb L (i+1) v8):=hid (by
     refine⟨?_,?_,((Same.trans HI.out.same (Same.trans HK4.out uZ)).then hk8 (λk hk e=>by have:=HR4.out.ge e;omega))⟩
     ·rw[List.take_add_one,HXL.out.2,List.map_append];show RowC _ _ _ _ _ _ ((L.take i).map (·.lab)++[y.lab]);rw[<-HXL.out.1];exact hr8
     ·have hb4:=(HI.out.blk.kept HK4.out (λf=>f)).kept uZ (λf=>f);exact hb4.kept hk8 (λe=>(HR4.out.kept uZ (λ_ _ f=>f)).off hb4 (by decide) e))
    clear hr8 LP yr Ib uZ hk8;go_wp2_with fail;go_roundg (gk-1)
    case measure=>omega
    case rel=>exact⟨i+1,by go_num,by omega,by omega,HF⟩
   ·have mM:decide (i<n1)=false:=(by simp;omega);obtain rfl:i=n1:=(by omega);have HR2:Hid (RowC w.heap.size 50 5 uu wr (.slice a0 i c0) (L.map (·.lab))):=hid (by have h9:=HI.out.row;rw[List.take_of_length_le (by have:=HN.out;omega)]at h9;exact h9.base HK2.out.size);have HB3:Hid (Blk wr eb #[.int .i64 0] 27):=hid HI.out.blk;have XF:wr.cell? ⟨eb,0,none⟩=some (.int .i64 0):=HB3.out.cell 0;have z0:=HB3.out.frozen 0;go_wp2_with fail;obtain⟨w3,hw3⟩:∃W,W=wr.setCell ⟨eb,0,none⟩ (.int .i64 0):=⟨_,rfl⟩
    have hb3:Blk w3 eb #[.int .i64 0] 27:=(by rw[hw3];have:=HB3.out.set 0 (.int .i64 0);simpa using this);have HKF:Hid (Same w (w3.setCell ⟨eb,0,none⟩ (.int .i64 0))):=hid (by rw[hw3];exact((Same.trans HK2.out HI.out.same).setCell _ _ (.inr (by have h9:=HEB.out;show w.heap.size<=eb;omega))).setCell _ _ (.inr (by have h9:=HEB.out;show w.heap.size<=eb;omega)));have hks:Kept (·=eb) wr (w3.setCell ⟨eb,0,none⟩ (.int .i64 0)):=(by rw[hw3];exact((Kept.refl (·=eb) wr).setCell _ _ (.inl rfl)).setCell _ _ (.inl rfl));have HRF:Hid (RowC w.heap.size 50 5 uu (w3.setCell ⟨eb,0,none⟩ (.int .i64 0)) (.slice a0 i c0) (L.map (·.lab))):=hid (HR2.out.kept hks (λj e f=>HR2.out.off HB3.out (by decide) (by rw[e,f])));have d0:(w3.setCell ⟨eb,0,none⟩ (.int .i64 0)).cell? ⟨eb,0,none⟩=some (.int .i64 0):=(by have:=(hb3.set 0 (.int .i64 0)).cell 0;simpa using this);rw[<-hw3];refine leaves_cons (f:=49) (args:=#[.pointer (some ⟨eb,0,none⟩)]) (by simp) (by simp[go_sem]) ?_;refine(vQ eb 0 w3 (hb3.cell 0) (hb3.frozen 0)).mono ?_;rintro e u' w'' ⟨rfl,rfl,rfl⟩;simp[Leaves,settle,results,Tryz.results19,go_sem,d0];exact⟨λk' e=>(by rw[HE.out]at e;cases e),λD' e=>by rw[HE.out]at e;simp only[Except.ok.injEq]at e;subst e;exact⟨a0,_,_,rfl,HRF.out,HN.out.2⟩,HKF.out⟩
theorem Row.low8{w:World}{v:Value}{bs:List Nat}(h:Row w v bs):Src w (λk=>k<w.heap.size) v bs:=(Src.ofRow h).mono (λ_ e=>(World.ownsRow.lt h _ e).2)
theorem Row.shape8{w:World}{v:Value}{bs:List Nat}(h:Row w v bs):∃a c,v=.slice a bs.length c/\bs.length<=c/\(bs≠[]->∃g,a=some ⟨g,0,none⟩/\∀j (hj:j<bs.length),w.cell? ⟨g,j,none⟩=some (.int .u8 (bs[j]:Nat))):=by
 obtain⟨ao,cap,e,hc⟩:=Src.ofRow h;have h2:=h.2;rcases h2 with⟨e2,h3⟩ | ⟨g,eV,cur,e2,_,_,h4,_⟩
 ·refine⟨none,0,by rw[e2,h3],by omega,λhb=>absurd (List.eq_nil_of_length_eq_zero h3) hb⟩
 ·refine⟨some ⟨g,0,none⟩,eV,e2,h4,λhb=>⟨g,rfl,λj hj=>?_⟩⟩;obtain⟨b,o,e5,_,h6⟩:=hc hb;rw[e2]at e;simp only[Value.slice.injEq]at e;rw[e5]at e;simp only[Option.some.injEq,Addr.mk.injEq,and_true]at e;obtain⟨⟨rfl,rfl⟩,_⟩:=e;have:=h6 j hj;simpa using this
theorem qB(w:World)(x0 x1 x2 x3:ByteArray):Ents (w.alloc (.cells #[.string x0,.string x1,.string x2,.string x3] 34)) (λ_=>True) (some ⟨w.heap.size,0,none⟩) 2 (λj=>if j=0 then⟨x0,x1⟩ else⟨x2,x3⟩):=by
 have hb:=Blk.new w #[.string x0,.string x1,.string x2,.string x3] 34;intro j hj;refine⟨w.heap.size,0,rfl,trivial,?_⟩
 match j,hj with
 | 0,_=>exact⟨hb.cell 0,hb.cell 1⟩
 | 1,_=>exact⟨hb.cell 2,hb.cell 3⟩
theorem dF(v n:Nat):∀b∈aT v n,b<256:=by
 induction n generalizing v with
 | zero=>intro b hb;simp[aT]at hb
 | succ n ih=>
  intro b hb;rw[aT]at hb;rcases List.mem_append.1 hb with hb | hb
  ·exact ih _ b hb
  ·simp only[List.mem_cons,List.not_mem_nil,or_false]at hb;omega
theorem tf(m:Mk):∀b∈iC m,b<256:=by intro b hb;unfold iC at hb;simp only[List.mem_append]at hb;rcases hb with h | h | h | h | h | h | h | h | h | h<;>exact dF _ _ b h
theorem Dd{L:List It}(h:∀x∈L,(∀b∈x.lab.name,b<256)/\∀b∈x.bytes,b<256):∀b∈d8 L,b<256:=by
 have hp:∀b∈bO L,b<256:=by
  intro b hb;obtain⟨x,hx,hb⟩:=List.mem_flatMap.1 hb;unfold nt j7 at hb;simp only[List.mem_append]at hb;rcases hb with(h1 | h1 | h1) | h1
  ·exact dF _ _ b h1
  ·exact tf _ b h1
  ·exact(h x hx).1 b h1
  ·exact(h x hx).2 b h1
 have hr:∀(at':Nat) (L:List It),(∀x∈L,(∀b∈x.lab.name,b<256)/\∀b∈x.bytes,b<256)->∀b∈cM at' L,b<256:=by
  intro at' L
  induction L generalizing at' with
  | nil=>intro _ b hb;simp[cM]at hb
  | cons x r ih=>
   intro h b hb;rw[cM]at hb;rcases List.mem_append.1 hb with hb | hb
   ·unfold lE at hb;simp only[List.mem_append]at hb;rcases hb with h1 | h1 | h1 | h1 | h1 | h1 | h1 | h1 | h1
    ·exact dF _ _ b h1
    ·exact dF _ _ b h1
    ·exact tf _ b h1
    ·exact dF _ _ b h1
    ·exact dF _ _ b h1
    ·exact dF _ _ b h1
    ·exact dF _ _ b h1
    ·exact dF _ _ b h1
    ·exact(h x (by simp)).1 b h1
   ·exact ih _ (λy hy=>h y (by simp[hy])) b hb
 intro b hb;unfold d8 at hb;simp only[List.mem_append]at hb;rcases hb with h1 | h1 | h1
 ·exact hp b h1
 ·exact hr 0 L h b h1
 ·unfold fd at h1;simp only[List.mem_append]at h1;rcases h1 with h | h | h | h | h | h | h | h<;>exact dF _ _ b h
theorem Dm{data bs:List Nat}(h:PDef data bs)(hb:∀b∈data,b<256)(hl:data.length<=16384):∀b∈bs,b<256:=by
 obtain⟨x2,x3,rfl,h2,h3⟩:=h;have hs:∀b∈bH data,b<256:=by
  intro b hx;unfold bH at hx;simp only[List.mem_append,List.mem_cons,List.not_mem_nil,or_false]at hx;rcases hx with(rfl | rfl | rfl | rfl | rfl) | h
  ·omega
  ·omega
  ·omega
  ·omega
  ·omega
  ·exact hb b h
 have LC:∀a c:List Nat,(∀b∈a,b<256)->(∀b∈c,b<256)->∀b∈bX a c,b<256:=by
  intro a c ha hc b hx;unfold bX at hx;split at hx
  ·exact hc b hx
  ·exact ha b hx
 exact LC _ _ (LC _ _ hs h2.2) h3.1.2
theorem vU{E:Nat->En}{len:Nat}{L:List It}(h:ji E len L)(hc:fA E len=0):∀b∈d8 L,b<256:=by
 refine Dd (λx hx=>?_);obtain⟨j,hj,rfl⟩:=List.getElem_of_mem hx;obtain⟨bs,hp,e⟩:=h.2 j L[j] (List.getElem?_eq_getElem hj);have h9:=(jM hc).2 j (by rw[<-h.1];exact hj);rw[e];refine⟨λb hb=>mS _ b hb,λb hb=>?_⟩;have hb:b∈dU (E j) bs:=hb;unfold dU at hb;split at hb
 ·exact Dm hp (mS _) (by rw[dm];omega) b hb
 ·exact mS _ b hb
theorem jG(w:World)(hx:Mxl w)(hT:Tab w):
  Calls Tryz.prog 9 #[] w λe w'=>e=.returned (.bool true)/\Same w w':=by
 have HX:Hid (Mxl w):=hx;have HT:Hid (Tab w):=hT;have H1:=kH w none 0 0 Jb (λj hj=>by omega) (Nat.le_refl _) hx hT rfl;clear hx hT;go_enter Tryz.func9,Tryz.ntmps9;go_wp2_with fail;refine H1.mono ?_;rintro e w1 ⟨v1,L1,rfl,hf1,hi1⟩;rw[Mr hi1]at hf1;obtain⟨a1,c1,fC,_,hbz⟩:=hf1.row.shape8;obtain⟨g1,Ly,hb1⟩:=hbz (by decide +kernel);clear hbz;subst Ly;have lz:(fd 0 0 0).length=22:=rfl;rw[lz]at fC;subst fC;have HR1:Hid (Row w1 (.slice (some ⟨g1,0,none⟩) 22 c1) (fd 0 0 0)):=hid hf1.row;have HC1:Hid (w1.cell? ⟨g1,0,none⟩=some (.int .u8 80)):=hid (hb1 0 (by decide +kernel));have HK1:Hid (Same w w1):=hid hf1.kept;obtain⟨W2,l9⟩:∃W,W=w1.alloc (.cells #[.string ⟨#[97]⟩,.string ⟨#[111,110,101]⟩,.string ⟨#[98,47,99]⟩,.string ⟨#[116,119,111]⟩] 34):=⟨_,rfl⟩
 have HKW2:Hid (Same w1 W2):=hid (by rw[l9];exact(Kept.refl _ w1).alloc _);have H2:=kH W2 (some ⟨w1.heap.size,0,none⟩) 2 2 Jb (by rw[l9];exact qB w1 _ _ _ _) (Nat.le_refl _) (HX.out.kept (Same.trans HK1.out HKW2.out) (λf=>f)) (HT.out.kept (Same.trans HK1.out HKW2.out) (λf=>f)) pH;clear H1 hf1 hi1 hb1 lz;go_wp2_with fail;rw[<-l9];clear l9;refine H2.mono ?_;rintro e w3 ⟨v3,L3,rfl,hf3,IY⟩;obtain⟨Jr,EW,MR⟩:=JI IY;have My:=vU IY pH;have OM:=oI IY pH;obtain⟨F,hF⟩:∃F,F=d8 L3:=⟨_,rfl⟩
 rw[<-hF]at hf3 EW MR My OM;obtain⟨a3,c3,sf,IQ,_⟩:=hf3.row.shape8;obtain⟨n3,hn3⟩:∃n,n=F.length:=⟨_,rfl⟩
 rw[<-hn3]at sf IQ OM;subst sf;have HK3:Hid (Same w1 w3):=hid (Same.trans HKW2.out hf3.kept);have H3:=wh w3 a3 n3 c3 F hf3.row.low8 hn3 My IQ (by omega) (HX.out.kept (Same.trans HK1.out HK3.out) (λf=>f)) (λL hL=>UnpOk.zero w3 L (by rw[EW]at hL;simp only[Except.ok.injEq]at hL;rw[<-hL];exact Jr));rw[MR]at H3;clear H2 hf3 IY Jr EW MR My IQ hF hn3;go_wp2_with fail;refine H3.mono ?_;intro e w4 h4;obtain⟨a4,n4,c4,rfl,hr4,hn4⟩:=h4.2.1 _ rfl;have hn4:n4=2:=hn4;subst hn4;have HK4:Hid (Same w1 w4):=hid (Same.trans HK3.out h4.2.2);have HR4:Hid (RowC w3.heap.size 34 2 yl w4 (.slice a4 2 c4) ([(sb a8,sb FL),(sb NC,sb Hb)].map jZ)):=hr4;obtain⟨W5,PV⟩:∃W,W=w4.alloc (.cells #[.string ⟨#[97]⟩,.string ⟨#[]⟩,.string ⟨#[97]⟩,.string ⟨#[]⟩] 34):=⟨_,rfl⟩
 have HKW5:Hid (Same w1 W5):=hid (Same.trans HK4.out (by rw[PV];exact(Kept.refl _ w4).alloc _));have HKW45:Hid (Same w4 W5):=hid (by rw[PV];exact(Kept.refl _ w4).alloc _);have UV:(λj=>if j=0 then(⟨⟨#[97]⟩,⟨#[]⟩⟩:En) else⟨⟨#[97]⟩,⟨#[]⟩⟩)=Qk:=by funext j;unfold Qk a8 Ld;split<;>rfl
 have H5:=qW W5 (some ⟨w4.heap.size,0,none⟩) 2 2 Qk (by rw[PV,<-UV];exact qB w4 _ _ _ _) (by decide) (Nat.le_refl _) (HX.out.kept (Same.trans HK1.out HKW5.out) (λf=>f)) (by rw[Cj];decide);rw[Cj]at H5;clear H3 h4 hr4 UV;go_wp2_with fail;rw[<-PV];clear PV;refine H5.mono ?_;rintro e w6 ⟨rfl,hk6⟩;have HK6:Hid (Same w1 w6):=hid (Same.trans HKW5.out hk6);have HK46:Hid (Same w4 w6):=hid (Same.trans HKW45.out hk6);have H6:=Eh w6 _ _ (fd 0 0 0) (Src.ofRow (HR1.out.kept HK6.out (λ_ _ f=>f))) (by decide +kernel);rw[show(fd 0 0 0).length=22 from rfl]at H6;clear H5 hk6;go_wp2_with fail;refine H6.mono ?_;rintro e w7 ⟨g7,rfl,LN,dk,Tx⟩;have HK7:Hid (Same w6 w7):=dk;have HR7:Hid (Row w7 (.slice (some ⟨g7,0,none⟩) 22 23) (fd 0 0 0)):=hid (Row.cut LN);have HN7:Hid (w6.heap.size<=g7):=Tx;clear H6 LN dk Tx;go_wp2_with (at_builtin;refine bi _ rfl (.tmp 36) (.tmp 37) rfl _ (fd 0 0 0) rfl (HR7.out.kept (show Same _ _ from(Kept.refl _ _).alloc _) (λ_ _ f=>f)) _ _ [0] rfl (λn c e=>by cases e) (JQ w7 [0] 1 rfl) (by decide +kernel) ?_;intro v8 w8 hr8 LP OS;have HR8:Hid (Row w8 v8 (fd 0 0 0++[0])):=hr8;have HK8:Hid (Same w6 w8):=hid ((Same.trans HK7.out (show Same w7 (w7.alloc (.cells #[.int .u8 0] 5)) from(Kept.refl _ _).alloc _)).then ((Kept.refl (λk=>(Value.slice (some ⟨g7,0,none⟩) 22 23).ownBlock=some k) _).grown LP (λk e=>.inl e)) (λx hx e=>by have:=HN7.out;simp only[Value.ownBlock,Option.some.injEq]at e;omega));obtain⟨TT,c8,KO,Cr,_⟩:=hr8.shape8;have KO:v8=.slice TT 23 c8:=KO;have Cr:23<=c8:=Cr;subst KO;clear hr8 LP OS);have H9:=x8 w8 TT 23 c8 (fd 0 0 0++[0]) HR8.out.low8 rfl (by decide +kernel) Cr (by decide) (HX.out.kept (Same.trans HK1.out (Same.trans HK6.out HK8.out)) (λf=>f));rw[L0]at H9;refine H9.mono ?_;intro e w9 h9;obtain rfl:=h9.1 81 rfl;have HK9:Hid (Same w6 w9):=hid (Same.trans HK8.out h9.2.2);clear H9 h9 Cr;have b0:w9.cell? ⟨g1,0,none⟩=some (.int .u8 80):=(Same.trans HK6.out HK9.out).cell HC1.out (λf=>f);obtain⟨Sp,KN⟩:∃W,W=w9.alloc (.cells #[.string ⟨#[97]⟩,.string ⟨#[111,110,101]⟩,.string ⟨#[98,47,99]⟩,.string ⟨#[116,119,111]⟩] 34):=⟨_,rfl⟩
 have HKW10:Hid (Same w9 Sp):=hid (by rw[KN];exact(Kept.refl _ w9).alloc _);have IU:=HR4.out.kept (Same.trans HK46.out (Same.trans HK9.out HKW10.out)) (λ_ _ f=>f);have ME:∀j,j<2->(([(sb a8,sb FL),(sb NC,sb Hb)].map jZ).getD j default)=Jb j:=by
  intro j hj
  match j,hj with
  | 0,_=>show jZ (sb a8,sb FL)=_;unfold jZ;simp only[ig];rfl
  | 1,_=>show jZ (sb NC,sb Hb)=_;unfold jZ;simp only[ig];rfl
 have Lo:Ents Sp (λ_=>True) a4 2 Jb:=by intro j hj;obtain⟨b,o,h1,h2,h3,h4⟩:=Ents.ofRow IU rfl j hj;exact⟨b,o,h1,h2,by rw[<-ME j hj];exact h3,by rw[<-ME j hj];exact h4⟩
 have H10:=ru Sp a4 (some ⟨w9.heap.size,0,none⟩) 2 c4 2 Jb _ _ Lo (by rw[KN];exact qB w9 _ _ _ _) (by decide);clear IU ME Lo;go_wp2_with fail;rw[<-KN];clear KN;refine H10.mono ?_;rintro e UC ⟨rfl,Pp⟩;have HK11:Hid (Same w6 UC):=hid (Same.trans HK9.out (Same.trans HKW10.out Pp));have H11:=nK UC ⟨#[97,47,98,46,116,120,116]⟩ (HX.out.kept (Same.trans HK1.out (Same.trans HK6.out HK11.out)) (λf=>f));rw[show fq (sb ⟨#[97,47,98,46,116,120,116]⟩)=true by decide +kernel]at H11;clear H10 Pp;go_wp2_with fail;refine H11.mono ?_;rintro e UE ⟨rfl,hk12⟩;have HK12:Hid (Same w6 UE):=hid (Same.trans HK11.out hk12);have H12:=nK UE ⟨#[97,47,47,98]⟩ (HX.out.kept (Same.trans HK1.out (Same.trans HK6.out HK12.out)) (λf=>f));rw[show fq (sb ⟨#[97,47,47,98]⟩)=false by decide +kernel]at H12;clear H11 hk12;go_wp2_with fail;refine H12.mono ?_;rintro e XT ⟨rfl,Pb⟩;have HK13:Hid (Same w XT):=hid (Same.trans HK1.out (Same.trans HK6.out (Same.trans HK12.out Pb)));clear H12 Pb;go_wp2_with fail;go_ret;exact⟨rfl,HK13.out⟩
theorem Gh{N:Nat}{w:World}{x:Itv}{y:It}(h:ItAt N w x y)(hT:Tab w):Calls Tryz.prog 59 #[.agg (jA x.m (.slice x.a x.n x.c))] w λe w'=>UnpZ w w' (dV y) e:=by
 obtain⟨a,ha⟩:=h.ck;obtain⟨_,_,hw,hz,hp,_⟩:=jc ha;rcases hw with hw | hw
 ·exact sx h hw
 ·rw[h.lab];have e:dV y=dV ⟨y.lab,y.bytes⟩:=rfl;rw[e];exact vP w y.lab x.a x.n x.c _ y.bytes h.src h.byte (by have:=h.pk;omega) h.len hw hz h.adr hT
theorem UnpOk.any{w:World}(hT:Tab w)(L:List It):UnpOk w L:=λ_ _ _ _ _ hi hk=>Gh hi (hT.kept hk (λf=>f))
theorem nD{E:Nat->En}{len:Nat}{L:List It}(h:ji E len L)(hc:fA E len=0){j:Nat}{x:It}(hx:L[j]? = some x):dV x=.ok (sb (E j).d)/\x.lab.name=sb (E j).n/\j<len:=by have hj:=(List.getElem?_eq_some_iff.1 hx).1;rw[h.1]at hj;obtain⟨bs,hp,e⟩:=h.2 j x hx;rw[e];exact⟨JJ hp ((jM hc).2 j hj).2,rfl,hj⟩
theorem JE(L:List It)(D:List (List Nat×List Nat))(hl:L.length=D.length)(h:∀(j:Nat) (x:It) (p:List Nat×List Nat),L[j]? = some x->D[j]? = some p->dV x=.ok p.2/\x.lab.name=p.1):iW L=.ok D:=by
 induction L generalizing D with
 | nil=>cases D with
  | nil=>rfl
  | cons p r=>simp at hl
 | cons x r ih=>cases D with
  | nil=>simp at hl
  | cons p q=>
   obtain⟨h1,h2⟩:=h 0 x p rfl rfl;have h3:=ih q (by simpa using hl) (λj y z hy hz=>h (j+1) y z (by simpa using hy) (by simpa using hz));rw[iW,h1];simp only;rw[h3,h2]
def nF(E:Nat->En)(len:Nat):List (List Nat×List Nat):=(List.range len).map (λj=>(sb (E j).n,sb (E j).d))
theorem Gw{E:Nat->En}{len:Nat}{L:List It}(h:ji E len L)(hc:fA E len=0):FK (d8 L)=.ok (nF E len):=by unfold FK;rw[ku h hc];refine JE L _ (by simp[nF,h.1]) (λj x p hx hp=>?_);obtain⟨h1,h2,h3⟩:=nD h hc hx;unfold nF at hp;rw[List.getElem?_map,List.getElem?_range h3]at hp;simp only[Option.map_some,Option.some.injEq]at hp;subst hp;exact⟨h1,h2⟩
theorem xG(E:Nat->En)(len j:Nat)(hj:j<len):((nF E len).map jZ).getD j default=E j:=by
 have e:((nF E len).map jZ)[j]? = some (E j):=by unfold nF;rw[List.getElem?_map,List.getElem?_map,List.getElem?_range hj];simp only[Option.map_some,jZ,ig]
 rw[List.getD_eq_getElem?_getD,e];rfl
theorem ye(E:Nat->En)(s:ByteArray)(n:Nat):gg E s n=true↔∃j,j<n/\(E j).n=s:=by
 induction n with
 | zero=>simp[gg]
 | succ n ih=>
  unfold gg;rw[Bool.or_eq_true,ih,decide_eq_true_eq];constructor
  ·rintro(⟨j,h1,h2⟩ | h)
   ·exact⟨j,by omega,h2⟩
   ·exact⟨n,by omega,h⟩
  ·rintro⟨j,h1,h2⟩;by_cases e:j=n
   ·right;rw[<-e];exact h2
   ·left;exact⟨j,by omega,h2⟩
theorem xR{E:Nat->En}{len:Nat}{L:List It}(h:ji E len L)(hc:fA E len=0)(j:Nat)(hj:j<len):AA (d8 L) (sb (E j).n)=.ok (sb (E j).d):=by
 unfold AA;rw[ku h hc];simp only;unfold D5;have EU:j<L.length:=by rw[h.1];exact hj
 have hf:L.find? (λy=>decide (y.lab.name=sb (E j).n))=some L[j]:=by rw[List.find?_eq_some_iff_getElem];refine⟨by simp[(nD h hc (List.getElem?_eq_getElem EU)).2.1],j,EU,rfl,λi hi=>?_⟩;have h2:=(nD h hc (List.getElem?_eq_getElem (Nat.lt_trans hi EU))).2.1;rw[h2];have:=rn hc i j hi hj;simp only[Bool.not_eq_true',decide_eq_false_iff_not];exact λe=>this (zR e)
 rw[hf];exact(nD h hc (List.getElem?_eq_getElem EU)).1
theorem G5{E:Nat->En}{len:Nat}{L:List It}(h:ji E len L)(hc:fA E len=0)(s:ByteArray)(hs:gg E s len=false):AA (d8 L) (sb s)=.error 85:=by
 unfold AA;rw[ku h hc];simp only;unfold D5;have hf:L.find? (λy=>decide (y.lab.name=sb s))=none:=by rw[List.find?_eq_none];intro x hx;obtain⟨i,hi,rfl⟩:=List.getElem_of_mem hx;have h2:=nD h hc (List.getElem?_eq_getElem hi);rw[h2.2.1];simp only[decide_eq_true_eq];exact λe=>BG hs i h2.2.2 (zR e)
 rw[hf]
theorem wE(w:World)(a:Option Addr)(len cap:Nat)(E:Nat→En)(s:ByteArray)(hs:Ents w (fun _=>True) a len E)(hn:len≤100000000):
  Calls Tryz.prog 29 #[.slice a len cap,.string s] w λe w'=>e=.returned (.bool (gg E s len))/\Same w w':=by
 have HS:Hid (Ents w (λ_=>True) a len E):=hs;clear hs;go_enter Tryz.func29,Tryz.ntmps29;go_wp2_with fail;go_loopg [5] len (λk z wr=>∃i:Nat,len-i<=k/\i<=len/\z=.int .i64 (i:Nat)/\wr=w/\Hid (gg E s i=false))
 case atStart=>exact⟨0,by omega,by omega,rfl,rfl,hid rfl⟩
 case round=>
  obtain⟨i,hk,Ck,rfl,rfl,HF⟩:=hrel;by_cases hlt:i<len
  ·have mM:decide (i<len)=true:=(by simp;omega);obtain⟨b,o,ha,_,lK,eS⟩:=HS.out i hlt;subst ha;obtain⟨y,hy⟩:∃y,y=E i:=⟨_,rfl⟩
   rw[<-hy]at lK eS;have HY:Hid (y=E i):=hy;have EL:IntKind.i64.wrap ((i:Int)+1)=((i+1:Nat):Int):=(by rw[IntKind.wrap_i64];omega);have i1:(0:Int)<=(i:Int):=(by omega);have i2:(i:Int)<(len:Int):=(by omega);have hq:=BV y.n s;clear hy;cases hb:decide (y.n=s) with
   | true=>
    rw[hb]at hq;have HB:Hid (gg E s len=true):=hid ((ye E s len).2 ⟨i,hlt,by rw[<-HY.out];exact of_decide_eq_true hb⟩);clear hb;go_wp2_with fail;go_ret;exact⟨by rw[HB.out];rfl,Kept.refl _ _⟩
   | false=>
    rw[hb]at hq;have HB:Hid (decide (y.n=s)=false):=hb;clear hb;go_wp2_with fail;go_roundg (gk-1)
    case measure=>omega
    case rel=>exact⟨i+1,by omega,by omega,by go_num,rfl,hid (by unfold gg;rw[HF.out,<-HY.out,HB.out];rfl)⟩
  ·have mM:decide (i<len)=false:=(by simp;omega);obtain rfl:i=len:=(by omega);go_wp2_with fail;go_ret;exact⟨by rw[HF.out];rfl,Kept.refl _ _⟩
def Tl(E:Nat->En)(len:Nat)(b:Bool):Prop:=b=false->len<=16777216/\∀j,j<len->(E j).n.size<=16777216/\(E j).d.size<=16777216
theorem zr(w:World)(a:Option Addr)(len cap:Nat)(E:Nat→En)(hs:Ents w (fun _=>True) a len E)(hn:len≤reachBytes)(hz:∀j,j<len→(E j).n.size≤reachBytes∧(E j).d.size≤reachBytes):
  Calls Tryz.prog 12 #[.slice a len cap] w λe w'=>(∃b,e=.returned (.bool b)/\Tl E len b)/\Same w w':=by
 have HS:Hid (Ents w (λ_=>True) a len E):=hs;have HZ:Hid (∀j,j<len->(E j).n.size<=140737488351232/\(E j).d.size<=140737488351232):=hz;have hn2:len<=140737488351232:=hn;clear hs hz hn;go_enter Tryz.func12,Tryz.ntmps12;go_wp2_with fail;go_loopg [3,4] len (λk z3 z4 wr=>∃i n:Nat,len-i<=k/\i<=len/\z3=.int .i64 (n:Nat)/\z4=.int .i64 (i:Nat)/\n<=422212465065984/\Hid (len<=n/\∀j,j<i->(E j).n.size<=n/\(E j).d.size<=n)/\Hid (Same w wr))
 case atStart=>exact⟨0,len,by omega,by omega,rfl,rfl,by omega,hid ⟨Nat.le_refl _,λj hj=>by omega⟩,hid (Kept.refl _ _)⟩
 case round=>
  obtain⟨i,n,hk,Ck,rfl,rfl,hnb,HN,HK⟩:=hrel;by_cases hlt:i<len
  ·have mM:decide (i<len)=true:=(by simp;omega);by_cases hm:n<=16777216
   ·have lJ:decide ((n:Int)<=16777216)=true:=(by simp;omega);have Rz:decide (n<=16777216)=true:=(by simp;omega);obtain⟨b,o,ha,_,lK,eS⟩:=HS.out i hlt;subst ha;have lK:=HK.out.cell lK (λf=>f);have eS:=HK.out.cell eS (λf=>f);obtain⟨y,hy⟩:∃y,y=E i:=⟨_,rfl⟩
    have SK:=HZ.out i hlt;rw[<-hy]at lK eS SK;have HY:Hid (y=E i):=hy;have EL:IntKind.i64.wrap ((i:Int)+1)=((i+1:Nat):Int):=(by rw[IntKind.wrap_i64];omega);obtain⟨s0,CB⟩:∃s,s=y.n.size:=⟨_,rfl⟩
    obtain⟨s1,hs1⟩:∃s,s=y.d.size:=⟨_,rfl⟩
    obtain⟨n1,hn1⟩:∃m,m=n+s0:=⟨_,rfl⟩
    obtain⟨n2,RJ⟩:∃m,m=n1+s1:=⟨_,rfl⟩
    have g0:(y.n.size:Int)=(s0:Int):=(by rw[CB]);have g1:(y.d.size:Int)=(s1:Int):=(by rw[hs1]);rw[<-CB,<-hs1]at SK;have q1:(n:Int)+(s0:Int)=(n1:Int):=(by omega);have q1w:IntKind.i64.wrap (n1:Int)=(n1:Int):=(by rw[IntKind.wrap_i64];omega);have q2:(n1:Int)+(s1:Int)=(n2:Int):=(by omega);have q2w:IntKind.i64.wrap (n2:Int)=(n2:Int):=(by rw[IntKind.wrap_i64];omega);have i1:(0:Int)<=(i:Int):=(by omega);have i2:(i:Int)<(len:Int):=(by omega);have hb2:n2<=422212465065984:=(by omega);have HNN:Hid (n<=n2/\y.n.size<=n2/\y.d.size<=n2):=hid (by omega);clear hy CB hs1 hn1 RJ SK hm;go_wp2_with fail;go_quiet (fail);go_wp2_with fail;go_roundg (gk-1)
    case measure=>omega
    case rel=>
     refine⟨i+1,n2,by omega,by omega,rfl,by go_num,hb2,hid ⟨by have:=HN.out.1;have:=HNN.out.1;omega,λj hj=>?_⟩,hid (HK.out.drewN _)⟩;by_cases e:j=i
     ·rw[e,<-HY.out];exact HNN.out.2
     ·have h9:=HN.out.2 j (by omega);have:=HNN.out.1;omega
   ·have lJ:decide ((n:Int)<=16777216)=false:=(by simp;omega);have Rz:decide (n<=16777216)=false:=(by simp;omega);have Y3:decide ((16777216:Int)<(n:Int))=true:=(by simp;omega);have Vo:decide (16777216<n)=true:=(by simp;omega);clear hm;go_wp2_with fail;go_ret;exact⟨⟨_,rfl,λe=>by simp at e⟩,HK.out⟩
  ·have mM:decide (i<len)=false:=(by simp;omega);have HIL:Hid (i=len):=hid (by omega);obtain⟨B,hB⟩:∃B,B=decide ((16777216:Int)<(n:Int)):=⟨_,rfl⟩
   have Y8:=hB.symm;have HB:Hid (B=false->n<=16777216):=hid (λe=>by rw[e]at hB;simp at hB;omega);have HNB:Hid (len<=n/\∀j,j<len->(E j).n.size<=n/\(E j).d.size<=n):=hid ⟨HN.out.1,λj hj=>HN.out.2 j (by have:=HIL.out;omega)⟩;clear hB hlt;go_wp2_with fail;go_ret;refine⟨⟨_,rfl,λe=>?_⟩,HK.out⟩;have h8:n<=16777216:=by
    first
     | exact HB.out e
     | (simp at e;omega)
   exact⟨by have:=HNB.out.1;omega,λj hj=>by have:=HNB.out.2 j hj;omega⟩
theorem Mm{E:Nat->En}{len:Nat}{L:List It}(h:ji E len L){j:Nat}(hj:j<len):∃m:Mk,(L.map (·.lab))[j]? = some m/\m.name=sb (E j).n/\m.size=(E j).d.size/\m.sum=more 0 (sb (E j).d)/\m.packed<=m.size/\((m.way=8/\m.packed<m.size)\/(m.way=0/\m.packed=m.size)):=by
 have EU:j<L.length:=by rw[h.1];exact hj
 obtain⟨bs,_,e⟩:=h.2 j L[j] (List.getElem?_eq_getElem EU);refine⟨ey (E j) bs,by rw[List.getElem?_map,List.getElem?_eq_getElem EU,e];rfl,rfl,rfl,rfl,?_,?_⟩
 ·show(dU (E j) bs).length<=(E j).d.size;unfold dU;split
  ·omega
  ·rw[dm];exact Nat.le_refl _
 ·show((if bs.length<(E j).d.size then 8 else 0)=8/\(dU (E j) bs).length<(E j).d.size)\/((if bs.length<(E j).d.size then 8 else 0)=0/\(dU (E j) bs).length=(E j).d.size);unfold dU;by_cases hb:bs.length<(E j).d.size
  ·rw[if_pos hb,if_pos hb];exact .inl ⟨rfl,hb⟩
  ·rw[if_neg hb,if_neg hb];exact .inr ⟨rfl,dm _⟩
def mZ:ByteArray:=⟨#[110,111,47,115,117,99,104,47,110,97,109,101]⟩
theorem Aa(a:Option Addr)(len cap:Nat)(E:Nat→En)(W:World)(he:Ents W (fun _=>True) a len E)(hc:len≤cap)(hr:len≤reachBytes)(hz:∀j,j<len→(E j).n.size≤reachBytes∧(E j).d.size≤reachBytes)(hT:Tab W)(hx:Mxl W):
  Calls Tryz.prog 6 #[.slice a len cap] W λe w'=>e=.returned (.bool true)/\Same W w':=by
 have HL:=zr W a len cap E he hr hz;have HS:Hid (Ents W (λ_=>True) a len E):=he;have HX:Hid (Mxl W):=hx;have HT:Hid (Tab W):=hT;have HC:Hid (len<=cap):=hc;clear he hz hx hT hr hc;go_enter Tryz.func6,Tryz.ntmps6;go_wp2_with fail;refine HL.mono ?_;rintro e w1 ⟨⟨b,rfl,RS⟩,hk1⟩;have HK1:Hid (Same W w1):=hk1;have HLG:Hid (Tl E len b):=RS;clear hk1 HL RS;cases b with
 | true=>
  have HA:=jG w1 (HX.out.kept HK1.out (λf=>f)) (HT.out.kept HK1.out (λf=>f));go_wp2_with fail;refine HA.mono ?_;rintro e w2 ⟨rfl,hk2⟩;have HK2:Hid (Same W w2):=hid (Same.trans HK1.out hk2);clear hk2 HA;go_wp2_with fail;go_ret;exact⟨rfl,HK2.out⟩
 | false=>
  have ag:len<=16777216:=(HLG.out rfl).1;by_cases hck:fA E len=0
  ·have HCK:Hid (fA E len=0):=hck;have HWr:=kH w1 a len cap E (HS.out.kept HK1.out (λ_ _ f=>f)) HC.out (HX.out.kept HK1.out (λf=>f)) (HT.out.kept HK1.out (λf=>f)) hck;clear hck HLG;go_wp2_with fail;refine HWr.mono ?_;rintro e w2 ⟨v2,L,rfl,hf2,uM⟩;have HI2:Hid (ji E len L):=uM;have VR:len<=64:=(jM HCK.out).1;have iy:=oI uM HCK.out;have HBY:Hid (∀x∈d8 L,x<256):=hid (vU uM HCK.out);obtain⟨a2,c2,rL,yJ,_⟩:=hf2.row.shape8;obtain⟨n,hn⟩:∃n,n=(d8 L).length:=⟨_,rfl⟩
   rw[<-hn]at rL yJ iy;subst rL;have HR2:Hid (Row w2 (.slice a2 n c2) (d8 L)):=hid hf2.row;have HN:Hid (n=(d8 L).length):=hn;have HK2:Hid (Same W w2):=hid (Same.trans HK1.out hf2.kept);have b1:decide ((1048576:Int)<(n:Int))=false:=(by simp;omega);have ZD:decide (1048576<n)=false:=(by simp;omega);have HRD:=wh w2 a2 n c2 (d8 L) hf2.row.low8 hn HBY.out yJ (by omega) (HX.out.kept HK2.out (λf=>f)) (λL' _=>UnpOk.any (HT.out.kept HK2.out (λf=>f)) L');rw[Gw uM HCK.out]at HRD;clear hf2 uM hn HWr;go_wp2_with fail;refine HRD.mono ?_;intro e w3 h3;obtain⟨a3,n3,c3,rfl,hr3,Ue⟩:=h3.2.1 _ rfl;have hn3:n3=len:=(by rw[Ue];simp[nF]);clear Ue;subst hn3;have HK3:Hid (Same w2 w3):=hid h3.2.2;have HR3:Hid (RowC w2.heap.size 34 2 yl w3 (.slice a3 n3 c3) ((nF E n3).map jZ)):=hr3;have HLS:=x8 w3 a2 n c2 (d8 L) (HR2.out.kept HK3.out (λ_ _ f=>f)).low8 HN.out HBY.out yJ (by omega) (HX.out.kept (Same.trans HK2.out HK3.out) (λf=>f));rw[ku HI2.out HCK.out]at HLS;clear HRD h3 hr3;go_wp2_with fail;refine HLS.mono ?_;intro e w4 h4;obtain⟨a4,n4,c4,rfl,hr4,Tw⟩:=h4.2.1 _ rfl;have hn4:n4=n3:=(by rw[Tw];exact HI2.out.1);clear Tw;subst hn4;have HK4:Hid (Same w2 w4):=hid (Same.trans HK3.out h4.2.2);have HR4:Hid (RowC w3.heap.size 50 5 uu w4 (.slice a4 n4 c4) (L.map (·.lab))):=hr4;have UW:Ents w4 (λ_=>True) a3 n4 E:=by
    intro j hj;obtain⟨b,o,h1,h2,h3,h5⟩:=Ents.ofRow (HR3.out.kept h4.2.2 (λ_ _ f=>f)) (by simp[nF]) j hj;refine⟨b,o,h1,h2,?_,?_⟩
    ·rw[<-xG E n4 j hj];exact h3
    ·rw[<-xG E n4 j hj];exact h5
   have HSM:=ru w4 a3 a n4 c3 cap E _ _ UW (HS.out.kept (Same.trans HK2.out HK4.out) (λ_ _ f=>f)) (by omega);have VV:((n4:Int) != (n4:Int))=false:=(by simp);clear HLS h4 hr4 UW;go_wp2_with fail;refine HSM.mono ?_;rintro e w5 ⟨rfl,hk5⟩;have HK5:Hid (Same w4 w5):=hk5;clear HSM hk5;go_wp2_with fail;go_loopg [11] n4 (λqq z11 wr=>∃i:Nat,z11=.int .i64 (i:Nat)/\i<=n4/\n4-i<=qq/\Hid (Same w4 wr))
   case atStart=>exact⟨0,rfl,by omega,by omega,HK5⟩
   case round=>
    obtain⟨i,rfl,hi1,NA,HKR⟩:=hrel;have HKW:Hid (Same W wr):=hid (Same.trans HK2.out (Same.trans HK4.out HKR.out));have HRR:Hid (Row wr (.slice a2 n c2) (d8 L)):=hid (HR2.out.kept (Same.trans HK4.out HKR.out) (λ_ _ f=>f));by_cases hi:i<n4
    ·have mM:decide (i<n4)=true:=(by simp;omega);obtain⟨b,o,ha,_,k0,k1⟩:=HS.out i hi;subst ha;obtain⟨y,hy⟩:∃y,y=E i:=⟨_,rfl⟩
     rw[<-hy]at k0 k1;have HK0:Hid (W.cell? ⟨b,o+i*2,none⟩=some (.string y.n)/\W.cell? ⟨b,o+i*2+1,none⟩=some (.string y.d)):=hid ⟨k0,k1⟩;have k0:=HKW.out.cell k0 (λf=>f);have k1:=HKW.out.cell k1 (λf=>f);have i1:(0:Int)<=(i:Int):=(by omega);have i2:(i:Int)<(n4:Int):=(by omega);have HFD:=vm wr a2 n c2 (d8 L) (sb y.n) HRR.out.low8 HN.out HBY.out yJ (by omega) (mS _) (HX.out.kept HKW.out (λf=>f)) (λL' _=>UnpOk.any (HT.out.kept HKW.out (λf=>f)) L');have uR:=xR HI2.out HCK.out i hi;rw[<-hy]at uR;rw[uR,ig]at HFD;obtain⟨m,hm,e1,e2,e3,e4,e5⟩:=Mm HI2.out hi;rw[<-hy]at e1 e2 e3;have We:y.d.size<=8192:=(by rw[hy];exact((jM HCK.out).2 i hi).2);clear uR hy;go_wp2_with fail;refine HFD.mono ?_;intro e w6 h6;obtain rfl:=h6.2.1 _ rfl;rw[ig];have HK6:Hid (Same w4 w6):=hid (Same.trans HKR.out h6.2.2);have HKW6:Hid (Same W w6):=hid (Same.trans HK2.out (Same.trans HK4.out HK6.out));have Jm:i<(L.map (·.lab)).length:=(List.getElem?_eq_some_iff.1 hm).1;obtain⟨g,rJ,hv,_,hc⟩:=(HR4.out.kept HK6.out (λ_ _ f=>f)).at8 FJ i Jm;rw[(List.getElem?_eq_some_iff.1 hm).2]at hc;simp only[Value.slice.injEq]at hv;have fC:=hv.1;clear hv;subst fC;have l0:w6.cell? ⟨g,i*5,none⟩=some (.string y.n):=(by have h9:=hc 0 (by decide);rw[Nat.add_zero]at h9;rw[h9];simp[uu,e1,ig]);have l1:w6.cell? ⟨g,i*5+1,none⟩=some (.int .i64 (y.d.size:Nat)):=(by rw[hc 1 (by decide)];simp[uu,e2]);have l2:w6.cell? ⟨g,i*5+2,none⟩=some (.int .i64 (m.packed:Nat)):=hc 2 (by decide);have l3:w6.cell? ⟨g,i*5+3,none⟩=some (.int .u32 (more 0 (sb y.d):Nat)):=(by rw[hc 3 (by decide)];simp[uu,e3]);have l4:w6.cell? ⟨g,i*5+4,none⟩=some (.int .i64 (m.way:Nat)):=hc 4 (by decide);have k0:=HKW6.out.cell HK0.out.1 (λf=>f);have k1:=HKW6.out.cell HK0.out.2 (λf=>f);obtain⟨pk,EQ⟩:∃p,p=m.packed:=⟨_,rfl⟩
     obtain⟨wy,Rk⟩:∃p,p=m.way:=⟨_,rfl⟩
     obtain⟨sz,cZ⟩:∃p,p=y.d.size:=⟨_,rfl⟩
     rw[<-EQ]at l2;rw[<-Rk]at l4;rw[<-cZ]at l1;rw[e2,<-EQ,<-Rk,<-cZ]at e5;rw[e2,<-EQ,<-cZ]at e4;rw[<-cZ]at We;have Yn:(y.d.size:Int)=(sz:Int):=(by rw[cZ]);obtain⟨wA,mP⟩:∃W,W=w6.alloc (.cells #[.string y.n,.int .i64 (sz:Nat),.int .i64 (pk:Nat),.int .u32 (more 0 (sb y.d):Nat),.int .i64 (wy:Nat)] 50):=⟨_,rfl⟩
     obtain⟨xb,ir⟩:∃b,b=w6.heap.size:=⟨_,rfl⟩
     have HKA:Hid (Same w6 wA):=hid (by rw[mP];exact(Kept.refl _ w6).alloc _);have HXA:Hid (Blk wA xb #[.string y.n,.int .i64 (sz:Nat),.int .i64 (pk:Nat),.int .u32 (more 0 (sb y.d):Nat),.int .i64 (wy:Nat)] 50):=hid (by rw[mP,ir];exact Blk.new w6 _ _);have x0:wA.cell? ⟨xb,0,none⟩=some (.string y.n):=HXA.out.cell 0;have x1:wA.cell? ⟨xb,1,none⟩=some (.int .i64 (sz:Nat)):=HXA.out.cell 1;have x2:wA.cell? ⟨xb,2,none⟩=some (.int .i64 (pk:Nat)):=HXA.out.cell 2;have x3:wA.cell? ⟨xb,3,none⟩=some (.int .u32 (more 0 (sb y.d):Nat)):=HXA.out.cell 3;have x4:wA.cell? ⟨xb,4,none⟩=some (.int .i64 (wy:Nat)):=HXA.out.cell 4;have k0:=HKA.out.cell k0 (λf=>f);have k1:=HKA.out.cell k1 (λf=>f);have q0:(y.n.toList != y.n.toList)=false:=(by simp);have q1:(y.d.toList != y.d.toList)=false:=(by simp);have q2:((sz:Int) != (sz:Int))=false:=(by simp);have q3:decide ((sz:Int)<(pk:Int))=false:=(by simp;omega);have ZP:decide (sz<pk)=false:=(by simp;omega);have HWX:Hid ((wy=8/\pk<sz)\/(wy=0/\pk=sz)):=hid (by rcases e5 with h | h;exact .inl h;exact .inr h);obtain⟨G,W3,OW,hk3,hs3,Jr⟩:=Fa wA.drew y.d;have MI:(convert 9 26 (.string y.d)).run Tryz.prog wA.drew=.ok (.slice (some ⟨wA.heap.size,0,none⟩) sz G) W3:=(by rw[cZ];exact OW);have HSN:=io W3 (.slice (some ⟨wA.heap.size,0,none⟩) sz G) (λk=>k=wA.heap.size) (sb y.d) (by rw[cZ];exact hs3) (mS _) (by rw[dm,<-cZ];omega);have HK3':Hid (Same wA W3):=hid (Same.trans ((Kept.refl _ wA).drew) hk3);obtain⟨sm,iy⟩:∃s,s=more 0 (sb y.d):=⟨_,rfl⟩
     rw[<-iy]at HSN l3 x3 mP;have q4:((sm:Int) != (sm:Int))=false:=(by simp);have HIW:Hid (i+1<=n4):=hid (by omega);have EL:IntKind.i64.wrap ((i:Int)+1)=((i+1:Nat):Int):=(by rw[IntKind.wrap_i64];omega);clear OW hs3 Jr iy;clear e1 e2 e3 e4 e5 hm Jm hc EQ Rk cZ h6 HFD;go_wp2_with fail;rw[<-mP,<-ir];clear mP ir l0 l1 l2 l3 l4;rcases HWX.out with⟨r1,r2⟩ | ⟨r1,r2⟩
     ·have q5:((wy:Int)==8)=true:=(by simp;omega);have q6:decide ((pk:Int)<(sz:Int))=true:=(by simp;omega);have Wy:decide (pk<sz)=true:=(by simp;omega);clear r1 r2;go_region_held (λw'=>w'.cell? ⟨b,o+i*2,none⟩=some (.string y.n)/\w'.cell? ⟨b,o+i*2+1,none⟩=some (.string y.d)/\w'.cell? ⟨xb,0,none⟩=some (.string y.n)/\w'.cell? ⟨xb,1,none⟩=some (.int .i64 (sz:Nat))/\w'.cell? ⟨xb,2,none⟩=some (.int .i64 (pk:Nat))/\w'.cell? ⟨xb,3,none⟩=some (.int .u32 (sm:Nat))/\w'.cell? ⟨xb,4,none⟩=some (.int .i64 (wy:Nat)))
       (first
        | (go_split_ands;exact⟨hk3.cell (by assumption) (λf=>f),hk3.cell (by assumption) (λf=>f),hk3.cell (by assumption) (λf=>f),hk3.cell (by assumption) (λf=>f),hk3.cell (by assumption) (λf=>f),hk3.cell (by assumption) (λf=>f),hk3.cell (by assumption) (λf=>f)⟩)
        | go_keep)
       (first | (go_at_call 28;refine HSN.mono ?_;rintro e w7 ⟨rfl,uX⟩;subst uX))
      all_goals
       go_wp2_with fail;go_roundg (gk-1)
       case measure=>omega
       case rel=>exact⟨i+1,by go_num,HIW.out,by omega,hid (Same.trans HK6.out (Same.trans HKA.out HK3'.out))⟩
     ·have q5:((wy:Int)==8)=false:=(by simp;omega);have q6:decide ((pk:Int)<(sz:Int))=false:=(by simp;omega);have Wy:decide (pk<sz)=false:=(by simp;omega);clear r1 r2;go_region_held (λw'=>w'.cell? ⟨b,o+i*2,none⟩=some (.string y.n)/\w'.cell? ⟨b,o+i*2+1,none⟩=some (.string y.d)/\w'.cell? ⟨xb,0,none⟩=some (.string y.n)/\w'.cell? ⟨xb,1,none⟩=some (.int .i64 (sz:Nat))/\w'.cell? ⟨xb,2,none⟩=some (.int .i64 (pk:Nat))/\w'.cell? ⟨xb,3,none⟩=some (.int .u32 (sm:Nat))/\w'.cell? ⟨xb,4,none⟩=some (.int .i64 (wy:Nat)))
       (first
        | (go_split_ands;exact⟨hk3.cell (by assumption) (λf=>f),hk3.cell (by assumption) (λf=>f),hk3.cell (by assumption) (λf=>f),hk3.cell (by assumption) (λf=>f),hk3.cell (by assumption) (λf=>f),hk3.cell (by assumption) (λf=>f),hk3.cell (by assumption) (λf=>f)⟩)
        | go_keep)
       (first | (go_at_call 28;refine HSN.mono ?_;rintro e w7 ⟨rfl,uX⟩;subst uX))
      all_goals
       go_wp2_with fail;go_roundg (gk-1)
       case measure=>omega
       case rel=>exact⟨i+1,by go_num,HIW.out,by omega,hid (Same.trans HK6.out (Same.trans HKA.out HK3'.out))⟩
    ·have mM:decide (i<n4)=false:=(by simp;omega);have HFD:=vm wr a2 n c2 (d8 L) (sb mZ) HRR.out.low8 HN.out HBY.out yJ (by omega) (mS _) (HX.out.kept HKW.out (λf=>f)) (λL' _=>UnpOk.any (HT.out.kept HKW.out (λf=>f)) L');rw[ig]at HFD;unfold mZ at HFD;cases hb:gg E mZ n4 with
     | true=>
      obtain⟨d,uR⟩:∃d,AA (d8 L) (sb mZ)=.ok d:=by obtain⟨j,hj,e⟩:=(ye E mZ n4).1 hb;exact⟨_,by rw[<-e];exact xR HI2.out HCK.out j hj⟩
      unfold mZ at uR;rw[uR]at HFD;have HB:Hid (gg E mZ n4=true):=hb;clear hb uR;go_wp2_with fail;refine HFD.mono ?_;intro e w6 h6;obtain rfl:=h6.2.1 _ rfl;have HK6:Hid (Same W w6):=hid (Same.trans HKW.out h6.2.2);have HA:=jG w6 (HX.out.kept HK6.out (λf=>f)) (HT.out.kept HK6.out (λf=>f));clear HFD h6;go_wp2_with fail;refine HA.mono ?_;rintro e w7 ⟨rfl,dk⟩;have HK7:Hid (Same W w7):=hid (Same.trans HK6.out dk);have HH:=wE w7 a n4 cap E mZ (HS.out.kept HK7.out (λ_ _ f=>f)) (by omega);rw[HB.out]at HH;unfold mZ at HH;clear dk HA;go_wp2_with fail;refine HH.mono ?_;rintro e w8 ⟨rfl,hk8⟩;have HK8:Hid (Same W w8):=hid (Same.trans HK7.out hk8);clear hk8 HH;go_wp2_with fail;go_ret;exact⟨rfl,HK8.out⟩
     | false=>
      have uR:=G5 HI2.out HCK.out mZ hb;unfold mZ at uR;rw[uR]at HFD;have HB:Hid (gg E mZ n4=false):=hb;clear hb uR;go_wp2_with fail;refine HFD.mono ?_;intro e w6 h6;obtain rfl:=h6.1 _ rfl;have HK6:Hid (Same W w6):=hid (Same.trans HKW.out h6.2.2);have HA:=jG w6 (HX.out.kept HK6.out (λf=>f)) (HT.out.kept HK6.out (λf=>f));clear HFD h6;go_wp2_with fail;refine HA.mono ?_;rintro e w7 ⟨rfl,dk⟩;have HK7:Hid (Same W w7):=hid (Same.trans HK6.out dk);have HH:=wE w7 a n4 cap E mZ (HS.out.kept HK7.out (λ_ _ f=>f)) (by omega);rw[HB.out]at HH;unfold mZ at HH;clear dk HA;go_wp2_with fail;refine HH.mono ?_;rintro e w8 ⟨rfl,hk8⟩;have HK8:Hid (Same W w8):=hid (Same.trans HK7.out hk8);clear hk8 HH;go_wp2_with fail;go_ret;exact⟨rfl,HK8.out⟩
  ·have HWr:=qW w1 a len cap E (HS.out.kept HK1.out (λ_ _ f=>f)) (by omega) HC.out (HX.out.kept HK1.out (λf=>f)) hck;obtain⟨x,hx⟩:∃x,x=fA E len:=⟨_,rfl⟩
   rw[<-hx]at HWr hck;have YK:((x:Int) != 0)=true:=(by simp;omega);clear hx hck;go_wp2_with fail;refine HWr.mono ?_;rintro e w2 ⟨rfl,hk2⟩;have HK2:Hid (Same W w2):=hid (Same.trans HK1.out hk2);have HA:=jG w2 (HX.out.kept HK2.out (λf=>f)) (HT.out.kept HK2.out (λf=>f));clear hk2 HWr;go_wp2_with fail;refine HA.mono ?_;rintro e w3 ⟨rfl,hk3⟩;have HK3:Hid (Same W w3):=hid (Same.trans HK2.out hk3);clear hk3 HA;go_wp2_with fail;go_ret;exact⟨rfl,HK3.out⟩
theorem tZ(a:Option Addr)(len cap:Nat)(E:Nat→En)(W:World)(he:Ents W (fun _=>True) a len E)(hc:len≤cap)(hr:len≤reachBytes)(hz:∀j,j<len→(E j).n.size≤reachBytes∧(E j).d.size≤reachBytes)(hT:Tab W)(hx:Mxl W):
  Calls Tryz.prog 6 #[.slice a len cap] W λe w'=>e=.returned (.bool true)/\Below W.heap.size W w':=
 (Aa a len cap E W he hc hr hz hT hx).mono (λ_ _ h=>⟨h.1,h.2.bel⟩)
end Go.Proofs.YtljlmfnbeofmmaaGreatDoor
