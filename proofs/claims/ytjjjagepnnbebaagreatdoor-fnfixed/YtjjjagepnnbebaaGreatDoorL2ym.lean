/-
  OUR OWN TEXT. The model's question whether rules are checked, of rules that are.
-/
import Derived.Test.YtjjjagepnnbebaaGreatDoorKar
import Derived.Test.YtjjjagepnnbebaaGreatDoorKah
namespace Go.Proofs.YtjjjagepnnbebaaGreatDoor
open Go.RowKit
attribute [local go_sem ↓] Go.wp_at_zero Go.wp_at_succ
set_option maxHeartbeats 800000 in
theorem zip(rs:List Ru)(a:Option Addr)(c:Nat){q:Option Nat}(w:World)(hv:zdD q w a rs)(X:rs.length<=c)(I:zb3 Ru.le 1048576 rs)(ho:∀ x∈rs,zg8 x.exprs)(U:chk rs=(0,0,0)) :
  Calls Tryz.prog 60 #[.slice a rs.length c] w fun e w'=>e=.returned (.bool true)/\Below w.heap.size w w':=by
 have E:=zgB (show (chk rs).1=0 by rw[U]);have G:Hid (Calls Tryz.prog 12 #[.slice a rs.length c] w fun e w'=>e=.returned (ckV (chk rs))/\Below w.heap.size w w'):=zd3 a c rs q w hv X I ho (fun x hx=>(E.2 x hx).1) E.1;unfold ckV at G;rw[U]at G;go_enter Tryz.func60,Tryz.ntmps60;go_wp2_with (go_at_call 12;with_reducible refine G.out.mono ?_;rintro e Z ⟨rfl,O⟩);go_ret;exact ⟨rfl,O⟩
end Go.Proofs.YtjjjagepnnbebaaGreatDoor
