/- What is wrong first, case by case. -/
import Derived.Test.YtkdbhioneoknjaaConfPure
namespace Go.Proofs.Ytkdbhioneoknjaa
open Go.ChangeShapes Go.WideShapes Go.ChangeAt Go.RowKit
set_option linter.unusedVariables false

theorem check1 {c : Cf} (L : List PV) (h : rightB c.ad = false) : checkI c L = 1 := by unfold checkI; rw [if_pos h]
theorem check2 {c : Cf} (L : List PV) (h : rightB c.ad = true) (h2 : timesB c = false) : checkI c L = 3 := by unfold checkI; rw [h, h2]; rfl
theorem check3 {c : Cf} (L : List PV) (h : rightB c.ad = true) (h2 : timesB c = true) (h3 : inI c.ag 10 1000000 = false) : checkI c L = 3 := by unfold checkI; rw [h, h2, h3]; rfl
theorem check4 {c : Cf} (L : List PV) (h : rightB c.ad = true) (h2 : timesB c = true) (h3 : inI c.ag 10 1000000 = true) (h4 : inI c.tb 0 64 = false) : checkI c L = 3 := by unfold checkI; rw [h, h2, h3, h4]; rfl
theorem check5 {c : Cf} (L : List PV) (h : rightB c.ad = true) (h2 : timesB c = true) (h3 : inI c.ag 10 1000000 = true) (h4 : inI c.tb 0 64 = true) (h5 : c.n = 0) : checkI c L = 8 := by unfold checkI; rw [h, h2, h3, h4, if_neg (by decide), if_neg (by decide), if_neg (by decide), if_neg (by decide), if_pos h5]
theorem check6 {c : Cf} (L : List PV) (h : rightB c.ad = true) (h2 : timesB c = true) (h3 : inI c.ag 10 1000000 = true) (h4 : inI c.tb 0 64 = true) (h6 : 4 < c.n) : checkI c L = 4 := by unfold checkI; rw [h, h2, h3, h4, if_neg (by decide), if_neg (by decide), if_neg (by decide), if_neg (by decide), if_neg (by omega), if_pos h6]
theorem check7 {c : Cf} {L : List PV} {r : Bool} (h : rightB c.ad = true) (h2 : timesB c = true) (h3 : inI c.ag 10 1000000 = true) (h4 : inI c.tb 0 64 = true) (h5 : ¬ c.n = 0) (h6 : ¬ 4 < c.n) (h7 : L.any badB = r) : checkI c L = if r = true then 3 else 0 := by
  unfold checkI; rw [h, h2, h3, h4, h7, if_neg (by decide), if_neg (by decide), if_neg (by decide), if_neg (by decide), if_neg h5, if_neg h6]

end Go.Proofs.Ytkdbhioneoknjaa
