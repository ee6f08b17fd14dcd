/-
  '==' of two filters, of two of where a request is sent.
-/
import Derived.Test.YthnodpdiocppgaaGreatDoorJ2
set_option maxHeartbeats 1600000
set_option maxRecDepth 20000
namespace Go.Proofs.YthnodpdiocppgaaGreatDoor
open Go Go.RowKit Go.Shelf
theorem aH5 (k p c k' p' c':Int) (n v h t n' v' h' t':ByteArray) (b b':Bool) (w:World) :
  (Op.equalIn 10000 108 (.agg #[.int .i64 k,.string n,.string v,.string h,.int .i64 p,.string t,.bool b,.int .i64 c]) (.agg #[.int .i64 k',.string n',.string v',.string h',.int .i64 p',.string t',.bool b',.int .i64 c'])).run Tryz.prog w =
   .ok (decide (k=k'∧n.toList=n'.toList∧v.toList=v'.toList∧h.toList=h'.toList∧p=p'∧t.toList=t'.toList∧b=b'∧c=c')) w:=by
 have u3:=Tryz.underlying3
 have i3:=Tryz.isAgg3
 have z3:=Tryz.sizeOf3
 rw [show (10000:Nat)=9999+1 from rfl,Op.equalIn]
 simp only [Sem.run_bind,run_underlying Tryz.underlying108,Result.andThen_ok]
 go_simp
 repeat' split
 all_goals simp_all
end Go.Proofs.YthnodpdiocppgaaGreatDoor
