/- What a session holds: Count, Held. -/
import Derived.Test.YthleadfkfnnadaaGreatSeB
set_option maxHeartbeats 4000000
set_option maxRecDepth 100000
set_option linter.unusedSimpArgs false
namespace Go.Proofs.YthleadfkfnnadaaGreat
open Rt Go.Proofs.Tryz
open Go.RowKit
attribute [local go_sem ↓] Go.wp_at_zero Go.wp_at_succ
variable {cap:Int} {X:ZK} {P B:Nat} {s:Se} {S:Rt.Src} {jv:Value} {w:World}
theorem BH (h:Zv w P B S cap s X jv):Calls Tryz.prog 103 #[.pointer (some ⟨P,8,none⟩)] w fun e w'=>e=.returned (.int .i64 (s.YU.length:Int))/\w'=w:=by
 have f:=h.jrS.k9;obtain⟨i,d,rfl⟩:=zK h.jr;clear h;go_enter func103,ntmps103;go_wp2;go_ret;exact⟨rfl,rfl⟩
theorem C9 (h:Zv w P B S cap s X jv):Calls Tryz.prog 61 #[.pointer (some ⟨P,0,none⟩)] w fun e w'=>e=.returned (.tuple #[.int .i64 s.low,.int .i64 (s.YU.length:Int)])/\w'=w:=by
 have d:=zD h;clear h;go_enter func61,ntmps61;go_wp2_with fail;refine(Ec d.u).mono ?_;rintro e w1 ⟨rfl,rfl⟩;go_wp2_with fail;refine(BH d.u).mono ?_;rintro e w2 ⟨rfl,rfl⟩;go_wp2_with fail;refine zT (v:=.tuple #[.int .i64 s.low,.int .i64 (s.YU.length:Int)]) ?_ rfl ⟨rfl,rfl⟩;simp[results,results61,go_sem]
end Go.Proofs.YthleadfkfnnadaaGreat
