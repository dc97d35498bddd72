import Derived.Test.YtkhagfgineifhaaGreatDoorZqD
import Derived.Defers
import Derived.Recover
namespace Go.Proofs.YtkhagfgineifhaaGreatDoor
open Go.RowKit
theorem oz(p:Nat)(x:Int)(n:Nat)(w:World)(hc:w.cell? ⟨p,0,none⟩=some (.int .i64 x))(hz:w.frozen? ⟨p,0,none⟩=false):
  CallsD Tryz.prog 20 #[.pointer (some ⟨p,0,none⟩)] (.panicking [{v:=.iface 26 (.int .i64 (n:Nat)),recovered:=false}]) w λe u' w'=>
   e=.returned (.tuple #[])/\u'=.panicking [{v:=.iface 26 (.int .i64 (n:Nat)),recovered:=true}]/\w'=w.setCell ⟨p,0,none⟩ (.int .i64 (n:Nat)):=by
 refine callsD_of_wpS Tryz.func20 rfl λc₀ cs hu=>?_
 have HG:=jz w n;apply wpS_region;simp[wpOpsS,go_sem,recoverD,hu,Tryz.ntmps20];refine HG.mono ?_;rintro e w' ⟨rfl,rfl⟩;simp[go_sem,hc,hz,bodyPostS,results,Tryz.results20]
theorem wL(p:Nat)(x:Int)(w:World)(hc:w.cell? ⟨p,0,none⟩=some (.int .i64 x))(hz:w.frozen? ⟨p,0,none⟩=false):
  CallsD Tryz.prog 20 #[.pointer (some ⟨p,0,none⟩)] .returning w λe u' w'=>e=.returned (.tuple #[])/\u'=.returning/\w'=w.setCell ⟨p,0,none⟩ (.int .i64 0):=by
 refine callsD_of_wpS Tryz.func20 rfl λc₀ cs hu=>?_
 have HG:=ju w;apply wpS_region;simp[wpOpsS,go_sem,recoverD,hu,Tryz.ntmps20];refine HG.mono ?_;rintro e w' ⟨rfl,rfl⟩;cases c₀;simp_all[go_sem,bodyPostS,results,Tryz.results20]
theorem i6(p:Nat)(x:Int)(n:Nat)(w:World)(hc:w.cell? ⟨p,0,none⟩=some (.int .i64 x))(hz:w.frozen? ⟨p,0,none⟩=false):
  CallsD Tryz.prog 24 #[.pointer (some ⟨p,0,none⟩)] (.panicking [{v:=.iface 26 (.int .i64 (n:Nat)),recovered:=false}]) w λe u' w'=>
   e=.returned (.tuple #[])/\u'=.panicking [{v:=.iface 26 (.int .i64 (n:Nat)),recovered:=true}]/\w'=w.setCell ⟨p,0,none⟩ (.int .i64 (n:Nat)):=by
 refine callsD_of_wpS Tryz.func24 rfl λc₀ cs hu=>?_
 have HG:=jz w n;apply wpS_region;simp[wpOpsS,go_sem,recoverD,hu,Tryz.ntmps24];refine HG.mono ?_;rintro e w' ⟨rfl,rfl⟩;simp[go_sem,hc,hz,bodyPostS,results,Tryz.results24]
theorem vO(p:Nat)(x:Int)(w:World)(hc:w.cell? ⟨p,0,none⟩=some (.int .i64 x))(hz:w.frozen? ⟨p,0,none⟩=false):
  CallsD Tryz.prog 24 #[.pointer (some ⟨p,0,none⟩)] .returning w λe u' w'=>e=.returned (.tuple #[])/\u'=.returning/\w'=w.setCell ⟨p,0,none⟩ (.int .i64 0):=by
 refine callsD_of_wpS Tryz.func24 rfl λc₀ cs hu=>?_
 have HG:=ju w;apply wpS_region;simp[wpOpsS,go_sem,recoverD,hu,Tryz.ntmps24];refine HG.mono ?_;rintro e w' ⟨rfl,rfl⟩;cases c₀;simp_all[go_sem,bodyPostS,results,Tryz.results24]
theorem ff(p:Nat)(x:Int)(n:Nat)(w:World)(hc:w.cell? ⟨p,0,none⟩=some (.int .i64 x))(hz:w.frozen? ⟨p,0,none⟩=false):
  CallsD Tryz.prog 26 #[.pointer (some ⟨p,0,none⟩)] (.panicking [{v:=.iface 26 (.int .i64 (n:Nat)),recovered:=false}]) w λe u' w'=>
   e=.returned (.tuple #[])/\u'=.panicking [{v:=.iface 26 (.int .i64 (n:Nat)),recovered:=true}]/\w'=w.setCell ⟨p,0,none⟩ (.int .i64 (n:Nat)):=by
 refine callsD_of_wpS Tryz.func26 rfl λc₀ cs hu=>?_
 have HG:=jz w n;apply wpS_region;simp[wpOpsS,go_sem,recoverD,hu,Tryz.ntmps26];refine HG.mono ?_;rintro e w' ⟨rfl,rfl⟩;simp[go_sem,hc,hz,bodyPostS,results,Tryz.results26]
theorem wJ(p:Nat)(x:Int)(w:World)(hc:w.cell? ⟨p,0,none⟩=some (.int .i64 x))(hz:w.frozen? ⟨p,0,none⟩=false):
  CallsD Tryz.prog 26 #[.pointer (some ⟨p,0,none⟩)] .returning w λe u' w'=>e=.returned (.tuple #[])/\u'=.returning/\w'=w.setCell ⟨p,0,none⟩ (.int .i64 0):=by
 refine callsD_of_wpS Tryz.func26 rfl λc₀ cs hu=>?_
 have HG:=ju w;apply wpS_region;simp[wpOpsS,go_sem,recoverD,hu,Tryz.ntmps26];refine HG.mono ?_;rintro e w' ⟨rfl,rfl⟩;cases c₀;simp_all[go_sem,bodyPostS,results,Tryz.results26]
end Go.Proofs.YtkhagfgineifhaaGreatDoor
