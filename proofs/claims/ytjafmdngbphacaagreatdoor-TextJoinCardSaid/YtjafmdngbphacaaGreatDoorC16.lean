/- The order of values, plain. -/
import Derived.Test.YtjafmdngbphacaaGreatDoorC11
set_option linter.unusedVariables false
set_option linter.unusedSimpArgs false
namespace Go.Proofs.YtjafmdngbphacaaGreatDoor
mutual
/-- The order of two values. -/
def vcmp : V → V → Int
  | .mk k n s ks es, .mk k' n' s' ks' es' =>
    if icmp k k' = 0 then (if icmp n n' = 0 then (if scmp s s' = 0 then (if kcmp ks ks' = 0 then vcmpL es es' else kcmp ks ks') else scmp s s') else icmp n n') else icmp k k'
def vcmpL : List V → List V → Int
  | [], [] => 0
  | [], _ :: _ => -1
  | _ :: _, [] => 1
  | e :: es, f :: fs => if vcmp e f = 0 then vcmpL es fs else vcmp e f
end
end Go.Proofs.YtjafmdngbphacaaGreatDoor
