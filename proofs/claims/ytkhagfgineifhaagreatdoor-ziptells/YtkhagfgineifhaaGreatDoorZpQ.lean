import Derived.Test.YtkhagfgineifhaaGreatDoorZpP
set_option maxHeartbeats 400000
set_option maxRecDepth 100000
namespace Go.Proofs.YtkhagfgineifhaaGreatDoor
open Go.RowKit
theorem kf(k:IntKind)(w:World)(vs:List Nat)(t:TypeId):FT k (w.alloc (.cells (vs.map (λx=>Value.int k (x:Nat))).toArray t)) w.heap.size vs:=by intro j hj;have hb:=(Blk.new w (vs.map (λx=>Value.int k (x:Nat))).toArray t).cell j;rw[hb];simp[List.getD_eq_getElem?_getD,List.getElem?_eq_getElem hj]
def LabBk(w:World)(b:Nat)(m:Mk):Prop:=Blk w b #[.int .u16 (m.way:Nat),.int .u32 (m.sum:Nat),.int .u32 (m.packed:Nat),.int .u32 (m.size:Nat),.string (bH m.name)] 49
theorem LabBk.cells{w:World}{b:Nat}{m:Mk}(h:LabBk w b m):w.cell? ⟨b,0,none⟩=some (.int .u16 (m.way:Nat))/\w.cell? ⟨b,1,none⟩=some (.int .u32 (m.sum:Nat))/\w.cell? ⟨b,2,none⟩=some (.int .u32 (m.packed:Nat))/\w.cell? ⟨b,3,none⟩=some (.int .u32 (m.size:Nat))/\w.cell? ⟨b,4,none⟩=some (.string (bH m.name)):=
 ⟨Blk.cell h 0,Blk.cell h 1,Blk.cell h 2,Blk.cell h 3,Blk.cell h 4⟩
theorem LabBk.kept{w w':World}{b:Nat}{m:Mk}(h:LabBk w b m)(hk:Same w w'):LabBk w' b m:=Blk.kept h hk (λf=>f)
theorem Kd(m:Mk):gX 2 [20,0,m.way,0,33]++gX 4 [m.sum,m.packed,m.size]++gX 2 [m.name.length,0]=im m:=by simp[gX,im]
theorem mJ(w:World)(v:Value)(I:Nat→Prop)(cs:List Nat)(m:Mk)(hs:Src w I v cs)(hm:gN m)(ag:cs.length≤1000000):
  Calls Tryz.prog 39 #[v,.agg (lA m)] w λe w'=>∃v',e=.returned v'/\Fresh w w' v' (cs++im m):=by
 obtain⟨W1,hW1⟩:∃W,W=w.alloc (.cells #[.int .u16 (m.way:Nat),.int .u32 (m.sum:Nat),.int .u32 (m.packed:Nat),.int .u32 (m.size:Nat),.string (bH m.name)] 49):=⟨_,rfl⟩
 obtain⟨mb,lu⟩:∃b,b=w.heap.size:=⟨_,rfl⟩
 have dA:W1.heap.size=mb+1:=by rw[hW1,lu,World.size_alloc]
 have HK1:Hid (Same w W1):=hid (by rw[hW1];exact(Kept.refl _ w).alloc _);have HL1:Hid (LabBk W1 mb m):=hid (by rw[hW1,lu];exact Blk.new w _ _);have HM:Hid (gN m/\cs.length<=1000000):=hid ⟨hm,ag⟩;have yG:∀o,Same W1 (W1.alloc o):=λo=>(Kept.refl _ W1).alloc o
 have hn1:=kf .u16 W1 [20,0,m.way,0,33] 47;have H1:=lZ _ v I cs W1.heap.size [20,0,m.way,0,33] 5 rfl (hs.kept (Same.trans HK1.out (yG _)) (λ_ _ _ f=>f)) hn1 (by intro x hx;have:=hm.way;simp at hx;omega) (by omega) (by decide);rw[dA]at H1;have HKA:Hid (Same W1 (W1.alloc (.cells (List.map (λx=>Value.int .u16 (x:Nat)) [20,0,m.way,0,33]).toArray 47))):=hid (yG _);clear hs hn1 yG hm ag dA;unfold lA;go_enter Tryz.func39,Tryz.ntmps39;go_wp2_with fail;rw[<-hW1,<-lu];clear hW1 lu;refine H1.mono ?_;rintro e w2 ⟨v2,rfl,_,_,hf2⟩;have hf2:=hf2 (by decide);have hk2:Same W1 w2:=Same.trans HKA.out hf2.kept;have HK2:Hid (Same w w2):=hid (Same.trans HK1.out hk2);have HL2:Hid (LabBk w2 mb m):=hid (HL1.out.kept hk2);obtain⟨c0,c1,c2,c3,c4⟩:=HL2.out.cells;have yG:∀o,Same w2 (w2.alloc o):=λo=>(Kept.refl _ w2).alloc o
 have hn2:=kf .u32 w2 [m.sum,m.packed,m.size] 32;have H2:=rg _ v2 _ (cs++gX 2 [20,0,m.way,0,33]) w2.heap.size [m.sum,m.packed,m.size] 3 rfl ((Src.ofRow hf2.row).kept (yG _) (λ_ _ _ f=>f)) hn2 (by intro x hx;have:=HM.out.1.sum;have:=HM.out.1.packed;have:=HM.out.1.size;simp at hx;omega) (by rw[List.length_append,cK];have:=HM.out.2;simp;omega) (by decide);have HKA2:Hid (Same w2 (w2.alloc (.cells (List.map (λx=>Value.int .u32 (x:Nat)) [m.sum,m.packed,m.size]).toArray 32))):=hid (yG _);clear hn2 yG hf2 hk2 H1 HKA HL1 HK1;go_wp2_with fail;refine H2.mono ?_;rintro e w3 ⟨v3,rfl,_,_,hf3⟩;have hf3:=hf3 (by decide);have hk3:Same w2 w3:=Same.trans HKA2.out hf3.kept;have HK3:Hid (Same w w3):=hid (Same.trans HK2.out hk3);have HL3:Hid (LabBk w3 mb m):=hid (HL2.out.kept hk3);obtain⟨d0,d1,d2,d3,d4⟩:=HL3.out.cells;obtain⟨nl,rO⟩:∃n,n=m.name.length:=⟨_,rfl⟩
 have YY:((bH m.name).size:Int)=(nl:Int):=by rw[rO,nz]
 have TI:(bH m.name).size=nl:=by rw[rO,nz]
 have X4:IntKind.u16.wrap (nl:Int)=(nl:Int):=by rw[IntKind.wrap_u16];have:=HM.out.1.name;omega
 have HNL:Hid (nl=m.name.length):=rO;have yG:∀o,Same w3 (w3.alloc o):=λo=>(Kept.refl _ w3).alloc o
 have hn3:=kf .u16 w3 [nl,0] 47;have H3:=lZ _ v3 _ (cs++gX 2 [20,0,m.way,0,33]++gX 4 [m.sum,m.packed,m.size]) w3.heap.size [nl,0] 2 rfl ((Src.ofRow hf3.row).kept (yG _) (λ_ _ _ f=>f)) hn3 (by intro x hx;have:=HM.out.1.name;simp at hx;omega) (by rw[List.length_append,List.length_append,cK,cK];have:=HM.out.2;simp;omega) (by decide);have HKA3:Hid (Same w3 (w3.alloc (.cells (List.map (λx=>Value.int .u16 (x:Nat)) [nl,0]).toArray 47))):=hid (yG _);clear hn3 yG hf3 hk3 H2 HKA2 HL2 HK2 c0 c1 c2 c3 c4 rO;go_wp2_with fail;refine H3.mono ?_;rintro e w4 ⟨v4,rfl,_,_,hf4⟩;have hf4:=hf4 (by decide);have HF4:Hid (Fresh w w4 v4 (cs++im m)):=hid (by
  refine⟨?_,Same.trans HK3.out (Same.trans HKA3.out hf4.kept),λk e=>Nat.le_trans (Same.trans HK3.out HKA3.out).size (hf4.new k e)⟩;have h9:=hf4.row;rw[HNL.out]at h9;rw[<-Kd,<-List.append_assoc,<-List.append_assoc];exact h9)
 clear hf4 H3;go_wp2_with fail;go_ret;exact⟨_,rfl,HF4.out⟩
end Go.Proofs.YtkhagfgineifhaaGreatDoor
