/- A histogram as plain data; what is wrong with it. -/
import Derived.Test.YtjnienlidmmhdaaGreatDoorHsDb
namespace Go.Proofs.YtjnienlidmmhdaaGreatDoor
open Go.RowKit Go.Sort
set_option linter.unusedVariables false

structure HV where
  k : Int
  s : Int
  z : Int
  zc : Int
  ct : Int
  sm : Int
  P : List (Int × Int)
  Q : List (Int × Int)
theorem HV.eq {a b : HV} (h1 : a.k = b.k) (h2 : a.s = b.s) (h3 : a.z = b.z) (h4 : a.zc = b.zc) (h5 : a.ct = b.ct) (h6 : a.sm = b.sm) (h7 : a.P = b.P) (h8 : a.Q = b.Q) : a = b := by
  cases a; cases b; simp_all
def chk (h : HV) : Int := checkF h.k h.s h.z h.zc h.ct h.P h.Q
end Go.Proofs.YtjnienlidmmhdaaGreatDoor
