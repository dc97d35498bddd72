/-
  Of the proof: parts VaC, VaD.
-/
import Derived.Deep.RegionHeld3
import Derived.BigQuiet
import Derived.Laws.ResultCell
import Derived.Test.YtcfociogljhbiaaGreatDoorJ4

namespace Go.Proofs.YtcfociogljhbiaaGreatDoor
open Go.RowKit Go.Maps Go.Sort

set_option maxHeartbeats 400000 in
theorem vnew_any(w:World)(t:Int):Calls Tryz.prog 58 #[.int .i64 t] w fun e w'=>∃p mr ml ms,e=.returned (.pointer (some ⟨p,0,none⟩))∧Vk 0 w' p mr ml ms ⟨t,[],[],[]⟩∧(w.heap.size≤p∧w.heap.size≤mr∧w.heap.size≤ml∧w.heap.size≤ms)∧Same w w':=by
 have hmm:=@run_makeMap Tryz.prog
 go_enter Tryz.func58,Tryz.ntmps58
 go_wp2_with fail
 go_ret
 obtain⟨b,hb⟩:∃b,b=w.heap.size:=⟨_,rfl⟩
 have e1:(w.alloc (.map #[] 0)).heap.size=b+1:=by rw[World.size_alloc,hb]
 have e2:((w.alloc (.map #[] 0)).alloc (.map #[] 0)).heap.size=b+2:=by rw[World.size_alloc,e1]
 have e3:(((w.alloc (.map #[] 0)).alloc (.map #[] 0)).alloc (.map #[] 0)).heap.size=b+3:=by rw[World.size_alloc,e2]
 have m1:MpG 63 unitElem kK unD (w.alloc (.map #[] 0)) b []:=by rw[hb];exact MpG.new w
 have m2:MpG 128 unitElem kB unD ((w.alloc (.map #[] 0)).alloc (.map #[] 0)) (b+1) []:=by rw[←e1];exact MpG.new _
 have m3:MpG 63 wrR kK wrD (((w.alloc (.map #[] 0)).alloc (.map #[] 0)).alloc (.map #[] 0)) (b+2) []:=by rw[←e2];exact MpG.new _
 have sm:∀(u:World) (o:Obj),Same u (u.alloc o):=fun u o=>(Kept.refl _ u).alloc o
 refine⟨b+3,b,b+1,b+2,by rw[hb];rfl,?_,by omega,((((Kept.refl _ w).alloc _).alloc _).alloc _).alloc _⟩
 refine {blk:=?_,rm:=(((m1.kept (sm _ _) (fun f=>f)).kept (sm _ _) (fun f=>f)).kept (sm _ _) (fun f=>f)),lm:=((m2.kept (sm _ _) (fun f=>f)).kept (sm _ _) (fun f=>f)),sm:=m3.kept (sm _ _) (fun f=>f),own:=fun x hx=>(by cases hx),ne:=by omega,lens:=⟨Nat.le_refl _,Nat.le_refl _,Nat.le_refl _⟩,big:=by decide}
 have h9:=Blk.new (((w.alloc (.map #[] 0)).alloc (.map #[] 0)).alloc (.map #[] 0)) #[.int .i64 t,.map (some w.heap.size),.map (some (w.heap.size+1)),.map (some (w.heap.size+2))] 169
 rw[e3]at h9
 rw[hb]at h9 ⊢
 exact h9

section
variable {K:Nat} {w:World} {p mr ml ms:Nat} {s:Vst}

set_option maxHeartbeats 400000 in
theorem vat_any(h:Vk K w p mr ml ms s):Calls Tryz.prog 94 #[.pointer (some ⟨p,0,none⟩)] w fun e w'=>e=.returned (.int .i64 s.t)∧w'=w:=by
 have c0:w.cell? ⟨p,0,none⟩=some (.int .i64 s.t):=h.blk.cell 0
 clear h
 go_enter Tryz.func94,Tryz.ntmps94
 go_wp2_with fail
 go_ret
 exact⟨rfl,rfl⟩

set_option maxHeartbeats 1000000 in
theorem vread_any(h:Vk K w p mr ml ms s)(k:Ke)(hK:K+1≤100000):Calls Tryz.prog 109 #[.pointer (some ⟨p,0,none⟩),.agg #[.string k.1.tn,.string k.1.ar,.string k.2.s]] w fun e w'=>e=.returned (.tuple #[])∧Vk (K+1) w' p mr ml ms {s with rd:=putG kK k () s.rd}∧Kept (·=mr) w w':=by
 obtain⟨wA,hwA⟩:∃W,W=w.alloc (.cells #[.string k.1.tn,.string k.1.ar,.string k.2.s] 63):=⟨_,rfl⟩
 obtain⟨xb,hxb⟩:∃x,x=w.heap.size:=⟨_,rfl⟩
 have BA:Blk wA xb #[.string k.1.tn,.string k.1.ar,.string k.2.s] 63:=by rw[hwA,hxb];exact Blk.new w _ _
 have hka:Same w wA:=by rw[hwA];exact(Kept.refl _ w).alloc _
 have hA:=(h.same hka).same (w':=wA.drew) (Kept.refl _ wA).drew
 obtain⟨w',hup,hv,hk⟩:=hA.putR k hK
 have HF:Hid (Vk (K+1) w' p mr ml ms {s with rd:=putG kK k () s.rd}∧Kept (·=mr) w w'):=hid ⟨hv,Kept.trans (F:=fun _=>False) (hka.drew) hk (fun _ _ f=>f.elim) (fun _ _ e=>e)⟩
 have c0:=BA.cell 0
 have c1:=BA.cell 1
 have c2:=BA.cell 2
 have p1:wA.cell? ⟨p,1,none⟩=some (.map (some mr)):=(h.same hka).blk.cell 1
 simp at c0 c1 c2
 clear h BA hka hA hv hk
 go_enter Tryz.func109,Tryz.ntmps109
 go_wp2_with fail
 rw[←hwA,←hxb]
 clear hwA hxb
 go_region
 go_wp2_with fail
 go_end0
 exact⟨rfl,HF.out⟩

set_option maxHeartbeats 1000000 in
theorem vlist_any(h:Vk K w p mr ml ms s)(b:Bx)(hK:K+1≤100000):Calls Tryz.prog 69 #[.pointer (some ⟨p,0,none⟩),.agg #[.string b.tn,.string b.ar]] w fun e w'=>e=.returned (.tuple #[])∧Vk (K+1) w' p mr ml ms {s with ls:=putG kB b () s.ls}∧Kept (·=ml) w w':=by
 obtain⟨wA,hwA⟩:∃W,W=w.alloc (.cells #[.string b.tn,.string b.ar] 128):=⟨_,rfl⟩
 obtain⟨xb,hxb⟩:∃x,x=w.heap.size:=⟨_,rfl⟩
 have BA:Blk wA xb #[.string b.tn,.string b.ar] 128:=by rw[hwA,hxb];exact Blk.new w _ _
 have hka:Same w wA:=by rw[hwA];exact(Kept.refl _ w).alloc _
 have hA:=(h.same hka).same (w':=wA.drew) (Kept.refl _ wA).drew
 obtain⟨w',hup,hv,hk⟩:=hA.putL b hK
 have HF:Hid (Vk (K+1) w' p mr ml ms {s with ls:=putG kB b () s.ls}∧Kept (·=ml) w w'):=hid ⟨hv,Kept.trans (F:=fun _=>False) (hka.drew) hk (fun _ _ f=>f.elim) (fun _ _ e=>e)⟩
 have c0:=BA.cell 0
 have c1:=BA.cell 1
 have p1:wA.cell? ⟨p,2,none⟩=some (.map (some ml)):=(h.same hka).blk.cell 2
 simp at c0 c1
 clear h BA hka hA hv hk
 go_enter Tryz.func69,Tryz.ntmps69
 go_wp2_with fail
 rw[←hwA,←hxb]
 clear hwA hxb
 go_region
 go_wp2_with fail
 go_end0
 exact⟨rfl,HF.out⟩

set_option maxHeartbeats 1000000 in
theorem vstage_any(h:Vk K w p mr ml ms s)(r:Wr)(hK:K+1≤100000):Calls Tryz.prog 114 #[.pointer (some ⟨p,0,none⟩),.agg #[.string r.b.tn,.string r.b.ar,.string r.n.s,.bool r.there,.string r.data]] w fun e w'=>e=.returned (.tuple #[])∧Vk (K+1) w' p mr ml ms {s with st:=putG kK (keO r) r s.st}∧Kept (·=ms) w w':=by
 obtain⟨wA,hwA⟩:∃W,W=w.alloc (.cells #[.string r.b.tn,.string r.b.ar,.string r.n.s,.bool r.there,.string r.data] 65):=⟨_,rfl⟩
 obtain⟨xb,hxb⟩:∃x,x=w.heap.size:=⟨_,rfl⟩
 have BA:Blk wA xb #[.string r.b.tn,.string r.b.ar,.string r.n.s,.bool r.there,.string r.data] 65:=by rw[hwA,hxb];exact Blk.new w _ _
 have hka:Same w wA:=by rw[hwA];exact(Kept.refl _ w).alloc _
 have hA:=(h.same hka).same (w':=wA.drew) (Kept.refl _ wA).drew
 obtain⟨w',hup,hv,hk⟩:=hA.putS r hK
 have HF:Hid (Vk (K+1) w' p mr ml ms {s with st:=putG kK (keO r) r s.st}∧Kept (·=ms) w w'):=hid ⟨hv,Kept.trans (F:=fun _=>False) (hka.drew) hk (fun _ _ f=>f.elim) (fun _ _ e=>e)⟩
 have c0:=BA.cell 0
 have c1:=BA.cell 1
 have c2:=BA.cell 2
 have c3:=BA.cell 3
 have c4:=BA.cell 4
 have p1:wA.cell? ⟨p,3,none⟩=some (.map (some ms)):=(h.same hka).blk.cell 3
 simp at c0 c1 c2 c3 c4
 clear h BA hka hA hv hk
 go_enter Tryz.func114,Tryz.ntmps114
 go_wp2_with fail
 rw[←hwA,←hxb]
 clear hwA hxb
 go_region
 go_wp2_with fail
 go_end0
 exact⟨rfl,HF.out⟩

set_option maxHeartbeats 1000000 in
theorem vput_any(h:Vk K w p mr ml ms s)(k:Ke)(d:ByteArray)(hd:d.size≤maxLen)(hK:K+1≤100000):Calls Tryz.prog 71 #[.pointer (some ⟨p,0,none⟩),.agg #[.string k.1.tn,.string k.1.ar,.string k.2.s],.string d] w fun e w'=>e=.returned (.tuple #[])∧Vk (K+1) w' p mr ml ms {s with st:=putG kK k ⟨k.1,k.2,true,d,hd⟩ s.st}∧Kept (·=ms) w w':=by
 have HS:Hid (∀w',Same w w'→Calls Tryz.prog 114 #[.pointer (some ⟨p,0,none⟩),.agg #[.string k.1.tn,.string k.1.ar,.string k.2.s,.bool true,.string d]] w' fun e w2=>e=.returned (.tuple #[])∧Vk (K+1) w2 p mr ml ms {s with st:=putG kK k ⟨k.1,k.2,true,d,hd⟩ s.st}∧Kept (·=ms) w w2):=hid (fun w' hk=>(vstage_any (h.same hk) ⟨k.1,k.2,true,d,hd⟩ hK).mono (fun e w2 h2=>⟨h2.1,h2.2.1,Kept.trans hk h2.2.2 (fun _ _ f=>f.elim) (fun _ _ e=>e)⟩))
 clear h
 go_enter Tryz.func71,Tryz.ntmps71
 go_wp2_with fail
 refine(HS.out _ ((Kept.refl _ w).alloc _)).mono ?_
 rintro e w2 ⟨rfl,h2⟩
 go_wp2_with fail
 go_end0
 exact⟨rfl,h2⟩

set_option maxHeartbeats 1000000 in
theorem vdel_any(h:Vk K w p mr ml ms s)(k:Ke)(hK:K+1≤100000):Calls Tryz.prog 72 #[.pointer (some ⟨p,0,none⟩),.agg #[.string k.1.tn,.string k.1.ar,.string k.2.s]] w fun e w'=>e=.returned (.tuple #[])∧Vk (K+1) w' p mr ml ms {s with st:=putG kK k ⟨k.1,k.2,false,⟨#[]⟩,by decide⟩ s.st}∧Kept (·=ms) w w':=by
 have HS:Hid (∀w',Same w w'→Calls Tryz.prog 114 #[.pointer (some ⟨p,0,none⟩),.agg #[.string k.1.tn,.string k.1.ar,.string k.2.s,.bool false,.string ⟨#[]⟩]] w' fun e w2=>e=.returned (.tuple #[])∧Vk (K+1) w2 p mr ml ms {s with st:=putG kK k ⟨k.1,k.2,false,⟨#[]⟩,by decide⟩ s.st}∧Kept (·=ms) w w2):=hid (fun w' hk=>(vstage_any (h.same hk) ⟨k.1,k.2,false,⟨#[]⟩,by decide⟩ hK).mono (fun e w2 h2=>⟨h2.1,h2.2.1,Kept.trans hk h2.2.2 (fun _ _ f=>f.elim) (fun _ _ e=>e)⟩))
 clear h
 go_enter Tryz.func72,Tryz.ntmps72
 go_wp2_with fail
 refine(HS.out _ ((Kept.refl _ w).alloc _)).mono ?_
 rintro e w2 ⟨rfl,h2⟩
 go_wp2_with fail
 go_end0
 exact⟨rfl,h2⟩

set_option maxRecDepth 100000 in
set_option maxHeartbeats 1000000 in
theorem vown_any(h:Vk K w p mr ml ms s)(k:Ke):Calls Tryz.prog 108 #[.pointer (some ⟨p,0,none⟩),.agg #[.string k.1.tn,.string k.1.ar,.string k.2.s]] w fun e w'=>e=.returned (.tuple #[.agg (wrE ((getG k s.st).getD wr0)).toArray,.bool (getG k s.st).isSome])∧Same w w':=by
 obtain⟨wA,hwA⟩:∃W,W=(w.alloc (.cells #[.string k.1.tn,.string k.1.ar,.string k.2.s] 63)).alloc (.cells #[.string ⟨#[]⟩,.string ⟨#[]⟩,.string ⟨#[]⟩,.bool false,.string ⟨#[]⟩] 65):=⟨_,rfl⟩
 obtain⟨xb,hxb⟩:∃x,x=w.heap.size:=⟨_,rfl⟩
 have BA:Blk wA xb #[.string k.1.tn,.string k.1.ar,.string k.2.s] 63:=by rw[hwA,hxb];exact(Blk.new w _ _).kept (F:=fun _=>False) ((Kept.refl _ _).alloc _) (fun f=>f)
 have BB:Blk wA (xb+1) #[.string ⟨#[]⟩,.string ⟨#[]⟩,.string ⟨#[]⟩,.bool false,.string ⟨#[]⟩] 65:=by
  rw[hwA,hxb]
  have:=Blk.new (w.alloc (.cells #[.string k.1.tn,.string k.1.ar,.string k.2.s] 63)) #[.string ⟨#[]⟩,.string ⟨#[]⟩,.string ⟨#[]⟩,.bool false,.string ⟨#[]⟩] 65
  rwa [World.size_alloc]at this
 have hka:Same w wA:=by rw[hwA];exact((Kept.refl _ w).alloc _).alloc _
 obtain⟨r,hr⟩:∃r,r=(getG k s.st).getD wr0:=⟨_,rfl⟩
 obtain⟨ok,hok⟩:∃b,b=(getG k s.st).isSome:=⟨_,rfl⟩
 have l1:=((h.same hka).same (w':=wA.drew) (Kept.refl _ wA).drew).lookS k
 rw[←hr,←hok]at l1 ⊢
 obtain⟨wB,hwB⟩:∃W,W=wA.alloc (.cells #[.string ⟨#[]⟩,.string ⟨#[]⟩,.string ⟨#[]⟩,.bool false,.string ⟨#[]⟩] 65):=⟨_,rfl⟩
 have hkb:Same wA wB:=by rw[hwB];exact(Kept.refl _ wA).alloc _
 have l1':=(((h.same hka).same hkb).same (w':=wB.drew) (Kept.refl _ wB).drew).lookS k
 rw[←hr,←hok]at l1'
 have BA':=BA.kept hkb (fun f=>f)
 have c0:=BA.cell 0
 have c1:=BA.cell 1
 have c2:=BA.cell 2
 have p1:wA.cell? ⟨p,3,none⟩=some (.map (some ms)):=(h.same hka).blk.cell 3
 have c0':=BA'.cell 0
 have c1':=BA'.cell 1
 have c2':=BA'.cell 2
 have p1':wB.cell? ⟨p,3,none⟩=some (.map (some ms)):=((h.same hka).same hkb).blk.cell 3
 simp at c0 c1 c2 c0' c1' c2'
 rw[hwB]at c0' c1' c2' p1' l1'
 have HB:Hid (Blk wA (xb+1) #[.string ⟨#[]⟩,.string ⟨#[]⟩,.string ⟨#[]⟩,.bool false,.string ⟨#[]⟩] 65):=BB
 have HK:Hid (Same w wA∧xb=w.heap.size):=hid ⟨hka,hxb⟩
 obtain⟨wC,hwC⟩:∃W,W=wA.alloc (.cells #[.string r.b.tn,.string r.b.ar,.string r.n.s,.bool r.there,.string r.data] 65):=⟨_,rfl⟩
 have hkc:Same wA wC:=by rw[hwC];exact(Kept.refl _ wA).alloc _
 have BD:=HB.out.kept hkc (fun f=>f)
 have HBD:Hid (Blk wC (xb+1) #[.string ⟨#[]⟩,.string ⟨#[]⟩,.string ⟨#[]⟩,.bool false,.string ⟨#[]⟩] 65∧Same wA wC):=hid ⟨BD,hkc⟩
 have e0:=BD.cell 0
 have e1:=BD.cell 1
 have e2:=BD.cell 2
 have e3:=BD.cell 3
 have e4:=BD.cell 4
 have z0:=BD.frozen 0
 have z1:=BD.frozen 1
 have z2:=BD.frozen 2
 have z3:=BD.frozen 3
 have z4:=BD.frozen 4
 simp at e0 e1 e2 e3 e4
 rw[hwC]at e0 e1 e2 e3 e4 z0 z1 z2 z3 z4
 clear h BA BA' hka hr hok BB hwB hkb BD hkc
 unfold wrE at l1 l1'
 go_enter Tryz.func108,Tryz.ntmps108
 go_wp2_with fail
 rw[←hwA,←hxb]
 clear hwA hxb
 go_region
 all_goals go_wp2_with fail
 all_goals
  have BF:=((((HBD.out.1.set 0 (.string r.b.tn)).set 1 (.string r.b.ar)).set 2 (.string r.n.s)).set 3 (.bool r.there)).set 4 (.string r.data)
  have hkf:Kept (·=xb+1) wC (((((wC.setCell ⟨xb+1,0,none⟩ (.string r.b.tn)).setCell ⟨xb+1,1,none⟩ (.string r.b.ar)).setCell ⟨xb+1,2,none⟩ (.string r.n.s)).setCell ⟨xb+1,3,none⟩ (.bool r.there)).setCell ⟨xb+1,4,none⟩ (.string r.data)):=(((((Kept.refl (fun k=>k=xb+1) wC).setCell _ _ (.inl rfl)).setCell _ _ (.inl rfl)).setCell _ _ (.inl rfl)).setCell _ _ (.inl rfl)).setCell _ _ (.inl rfl)
  simp at BF
  rw[←hwC]
  obtain⟨wF,hwF⟩:∃W,W=(((((wC.setCell ⟨xb+1,0,none⟩ (.string r.b.tn)).setCell ⟨xb+1,1,none⟩ (.string r.b.ar)).setCell ⟨xb+1,2,none⟩ (.string r.n.s)).setCell ⟨xb+1,3,none⟩ (.bool r.there)).setCell ⟨xb+1,4,none⟩ (.string r.data)):=⟨_,rfl⟩
  rw[←hwF]at BF hkf ⊢
  have BF:=BF.kept (F:=fun _=>False) (w':=wF.drew) (Kept.refl _ _).drew (fun f=>f)
  have f0:=BF.cell 0
  have f1:=BF.cell 1
  have f2:=BF.cell 2
  have f3:=BF.cell 3
  have f4:=BF.cell 4
  simp at f0 f1 f2 f3 f4
  refine bodyPost_ret (v:=.tuple #[.agg (wrE r).toArray,.bool ok]) (by rw[results_cell_tmp rfl];simp[go_sem,wrE,f0,f1,f2,f3,f4]) rfl ?_
  exact⟨rfl,Kept.trans (Same.trans HK.out.1 HBD.out.2) hkf.drew (fun _ _ f=>f) (fun k hlt e=>by have:=HK.out.2;omega)⟩

end

end Go.Proofs.YtcfociogljhbiaaGreatDoor

namespace Go.Proofs.YtcfociogljhbiaaGreatDoor
open Go.RowKit Go.Maps Go.Sort

def sawS(s:Vst)(k:Ke):Bool:=(getG k s.rd).isSome || (getG k.1 s.ls).isSome

section
variable {K:Nat} {w:World} {p mr ml ms:Nat} {s:Vst}

set_option maxRecDepth 100000 in
set_option maxHeartbeats 1000000 in
theorem vsaw_any(h:Vk K w p mr ml ms s)(k:Ke):Calls Tryz.prog 165 #[.pointer (some ⟨p,0,none⟩),.agg #[.string k.1.tn,.string k.1.ar,.string k.2.s]] w fun e w'=>e=.returned (.bool (sawS s k))∧Same w w':=by
 obtain⟨wA,hwA⟩:∃W,W=w.alloc (.cells #[.string k.1.tn,.string k.1.ar,.string k.2.s] 63):=⟨_,rfl⟩
 obtain⟨xb,hxb⟩:∃x,x=w.heap.size:=⟨_,rfl⟩
 have HBA:Hid (Blk wA xb #[.string k.1.tn,.string k.1.ar,.string k.2.s] 63):=hid (by rw[hwA,hxb];exact Blk.new w _ _)
 have hka:Same w wA:=by rw[hwA];exact(Kept.refl _ w).alloc _
 obtain⟨ok,hok⟩:∃b,b=(getG k s.rd).isSome:=⟨_,rfl⟩
 obtain⟨ok2,hok2⟩:∃b,b=(getG k.1 s.ls).isSome:=⟨_,rfl⟩
 have HR:Hid (sawS s k=(ok || ok2)):=hid (by unfold sawS;rw[hok,hok2])
 have HL:Hid (∀w',Same wA w'→(Instr.lookup 165 (.map (some mr)) (.agg #[.string k.1.tn,.string k.1.ar,.string k.2.s]) true).run Tryz.prog w'=.ok (.tuple #[.agg #[],.bool ok]) w'∧(Instr.lookup 166 (.map (some ml)) (.agg #[.string k.1.tn,.string k.1.ar]) true).run Tryz.prog w'=.ok (.tuple #[.agg #[],.bool ok2]) w'∧w'.cell? ⟨xb,0,none⟩=some (.string k.1.tn)∧w'.cell? ⟨xb,1,none⟩=some (.string k.1.ar)∧w'.cell? ⟨xb,2,none⟩=some (.string k.2.s)∧w'.cell? ⟨p,1,none⟩=some (.map (some mr))∧w'.cell? ⟨p,2,none⟩=some (.map (some ml))):=hid (fun w' hk=>by
  have h1:=(h.same hka).same hk
  have h2:=HBA.out.kept hk (fun f=>f)
  exact⟨by rw[hok];exact h1.lookR k,by rw[hok2];exact h1.lookL k.1,h2.cell 0,h2.cell 1,h2.cell 2,h1.blk.cell 1,h1.blk.cell 2⟩)
 have HK:Hid (Same w wA):=hka
 clear h hka hok hok2
 rw[HR.out]
 obtain⟨l1,-,c0,c1,c2,p1,p2⟩:=HL.out wA (Kept.refl _ _)
 have l1d:=(HL.out wA.drew (Kept.refl _ _).drew).1
 obtain⟨wB,hwB⟩:∃W,W=wA.alloc (.cells #[] 191):=⟨_,rfl⟩
 have hkb:Same wA wB:=by rw[hwB];exact(Kept.refl _ _).alloc _
 obtain⟨-,-,c0b,c1b,c2b,p1b,p2b⟩:=HL.out wB hkb
 have l1b:=(HL.out wB.drew hkb.drew).1
 have HKB:Hid (Same wA wB.drew):=hid hkb.drew
 rw[hwB]at c0b c1b c2b p1b p2b l1b HKB
 clear hkb
 cases ok with
 | true=>
  go_enter Tryz.func165,Tryz.ntmps165
  go_wp2_with fail
  rw[←hwA,←hxb]
  clear hwA hxb
  go_region
  all_goals go_wp2_with fail
  all_goals go_ret
  all_goals exact⟨rfl,HK.out.trans HKB.out⟩
 | false=>
  obtain⟨wC,hwC⟩:∃W,W=wB.alloc (.cells #[] 191):=⟨_,rfl⟩
  have hkc:Same wA wC:=by rw[hwC,hwB];exact((Kept.refl _ _).alloc _).alloc _
  obtain⟨-,-,c0c,c1c,c2c,p1c,p2c⟩:=HL.out wC hkc
  have l2b:=(HL.out wB.drew.drew (by rw[hwB];exact(((Kept.refl _ _).alloc _).drew).drew)).2.1
  have l2c:=(HL.out wC.drew.drew hkc.drew.drew).2.1
  have HKC:Hid (Same wA wC.drew.drew):=hid hkc.drew.drew
  rw[hwC,hwB]at c0c c1c c2c p1c p2c l2c HKC
  rw[hwB]at l2b
  clear hkc
  simp only[Bool.false_or]
  go_enter Tryz.func165,Tryz.ntmps165
  go_wp2_with fail
  rw[←hwA,←hxb]
  clear hwA hxb
  go_region
  all_goals go_wp2_with fail
  all_goals go_region
  all_goals go_wp2_with fail
  all_goals go_ret
  all_goals exact⟨rfl,HK.out.trans HKC.out⟩

end

end Go.Proofs.YtcfociogljhbiaaGreatDoor
