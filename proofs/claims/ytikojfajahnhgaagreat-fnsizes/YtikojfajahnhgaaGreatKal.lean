import Derived.Test.YtikojfajahnhgaaGreatKad
import Derived.Test.YtikojfajahnhgaaGreatKak
set_option linter.all false
namespace Go.Proofs.YtikojfajahnhgaaGreat
attribute [local simp] At I6 Pn mzI
attribute [local go_sem] At I6 Pn
open Go.RowKit Go.Proofs.Tryz
attribute [local go_sem ↓] wp_at_zero wp_at_succ
set_option maxHeartbeats 800000 in
def Tz(v w)(f:v.J.size<=maxLen) :
  Ca 176 #[.agg #[I6 v.u,I6 v.num,.string v.J]] w λe w'=>
   e=.returned (.bool (Bf v))/\Bw w w':=by
 obtain⟨G⟩:Nonempty (Hid (Bf v=((v.u==0&&v.J.toList.isEmpty)||(v.u==1&&(v.num==0&&Aq v.J.data.toList))))):=⟨rfl⟩
 have g:=He v.J (w.alloc (.cells #[I6 v.u,I6 v.num,.string v.J] 187)) f;cases d:(v.u==0)<;>cases a:v.J.toList.isEmpty<;>cases c:(v.u==1)<;>cases b:(v.num==0)
 all_goals
  go_enter func176,ntmps176;go_wp2_with (go_at_call 116;refine g.j ?_;rintro e w' ⟨rfl,rfl⟩)
 all_goals try go_ret
 all_goals exact⟨AL (by rw[G.o,d,a,c,b];simp),Aj⟩
end Go.Proofs.YtikojfajahnhgaaGreat
