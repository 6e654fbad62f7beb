/- The lines that numbers can make are right ones: by reckoning. -/
import Derived.Test.YtopeochnoefgcaaDoorTdDefs
namespace Go.Proofs.YtopeochnoefgcaaDoor
namespace Rt

def namesF : List ByteArray := [⟨#[112]⟩, ⟨#[113]⟩, ⟨#[120]⟩, ⟨#[122]⟩]
theorem good_if_f : (namesF.all fun a => digs.all fun n => lnGood parsF 5 (ifT a n)) = true := by kernel_rfl
theorem good_wh_f : (namesF.all fun a => digs.all fun n => lnGood parsF 7 (whT a n)) = true := by kernel_rfl
theorem good_inc_f : (namesF.all fun a => lnGood parsF 8 (incT a)) = true := by kernel_rfl
theorem good_pr_f : (namesF.all fun a => digs.all fun n => lnGood parsF 10 (prT a n)) = true := by kernel_rfl
theorem good_dv_f : (namesF.all fun a => digs.all fun n => lnGood parsF 8 (dvT a n)) = true := by kernel_rfl
theorem good_p0_f : (namesF.all fun a => digs.all fun n => lnGood parsF 8 (plainE 0 a ⟨#[]⟩ n)) = true := by kernel_rfl
theorem good_p1_f : (namesF.all fun a => namesF.all fun b => lnGood parsF 8 (plainE 1 a b ⟨#[]⟩)) = true := by kernel_rfl
theorem good_p2_f : (namesF.all fun a => namesF.all fun b => lnGood parsF 9 (plainE 2 a b ⟨#[]⟩)) = true := by kernel_rfl
theorem good_p3_f : (namesF.all fun a => digs.all fun n => lnGood parsF 8 (plainE 3 a ⟨#[]⟩ n)) = true := by kernel_rfl
theorem good_p4_f : (namesF.all fun a => lnGood parsF 10 (plainE 4 a ⟨#[]⟩ ⟨#[]⟩)) = true := by kernel_rfl
theorem good_p5_f : (namesF.all fun a => lnGood parsF 11 (plainE 5 a ⟨#[]⟩ ⟨#[]⟩)) = true := by kernel_rfl
theorem good_p6_f : (namesF.all fun a => digs.all fun n => lnGood parsF 12 (plainE 6 a ⟨#[]⟩ n)) = true := by kernel_rfl
theorem good_p7_f : (namesF.all fun a => namesF.all fun b => digs.all fun n => lnGood parsF 8 (plainE 7 a b n)) = true := by kernel_rfl
theorem good_el_f : lnGood parsF 6 elT = true := by kernel_rfl
theorem good_en_f : lnGood parsF 4 enT = true := by kernel_rfl
theorem good_if_m : (varsM.all fun a => digs.all fun n => lnGood [] 5 (ifT a n)) = true := by kernel_rfl
theorem good_wh_m : (varsM.all fun a => digs.all fun n => lnGood [] 7 (whT a n)) = true := by kernel_rfl
theorem good_inc_m : (varsM.all fun a => lnGood [] 8 (incT a)) = true := by kernel_rfl
theorem good_pr_m : (varsM.all fun a => digs.all fun n => lnGood [] 10 (prT a n)) = true := by kernel_rfl
theorem good_dv_m : (varsM.all fun a => digs.all fun n => lnGood [] 8 (dvT a n)) = true := by kernel_rfl
theorem good_p0_m : (varsM.all fun a => digs.all fun n => lnGood [] 8 (plainE 0 a ⟨#[]⟩ n)) = true := by kernel_rfl
theorem good_p1_m : (varsM.all fun a => varsM.all fun b => lnGood [] 8 (plainE 1 a b ⟨#[]⟩)) = true := by kernel_rfl
theorem good_p2_m : (varsM.all fun a => varsM.all fun b => lnGood [] 9 (plainE 2 a b ⟨#[]⟩)) = true := by kernel_rfl
theorem good_p3_m : (varsM.all fun a => digs.all fun n => lnGood [] 8 (plainE 3 a ⟨#[]⟩ n)) = true := by kernel_rfl
theorem good_p4_m : (varsM.all fun a => lnGood [] 10 (plainE 4 a ⟨#[]⟩ ⟨#[]⟩)) = true := by kernel_rfl
theorem good_p5_m : (varsM.all fun a => lnGood [] 11 (plainE 5 a ⟨#[]⟩ ⟨#[]⟩)) = true := by kernel_rfl
theorem good_p6_m : (varsM.all fun a => digs.all fun n => lnGood [] 12 (plainE 6 a ⟨#[]⟩ n)) = true := by kernel_rfl
theorem good_p7_m : (varsM.all fun a => varsM.all fun b => digs.all fun n => lnGood [] 8 (plainE 7 a b n)) = true := by kernel_rfl
theorem good_el_m : lnGood [] 6 elT = true := by kernel_rfl
theorem good_en_m : lnGood [] 4 enT = true := by kernel_rfl
end Rt
end Go.Proofs.YtopeochnoefgcaaDoor

