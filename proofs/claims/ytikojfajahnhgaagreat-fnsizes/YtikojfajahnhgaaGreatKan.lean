import Derived.Test.YtikojfajahnhgaaGreatKam
set_option linter.all false
namespace Go.Proofs.YtikojfajahnhgaaGreat
attribute [local simp] At I6 Pn mzI
attribute [local go_sem] At I6 Pn
open Go.RowKit Go.Proofs.Tryz
def Ps(f:F):Bool:=decide (1<=f.tag)&&(decide (f.tag<=1000000)&&(Aq f.z.data.toList&&C4 f.s))
def lm{f x}(h:1<=f.tag)(e:Ps f=x):(decide (f.tag<=1000000)&&(Aq f.z.data.toList&&C4 f.s))=x:=by
 unfold Ps at e;rwa [decide_eq_true h,YJ]at e
set_option maxHeartbeats 800000 in
def Tq(v w)(f:v.J.size<=maxLen) :
  Ca 256 #[.agg #[I6 v.u,I6 v.num,.string v.J]] w λe w'=>
   e=.returned (.bool (Bf v))/\Bw w w':=by
 obtain⟨G⟩:Nonempty (Hid (Bf v=((v.u==0&&v.J.toList.isEmpty)||(v.u==1&&(v.num==0&&Aq v.J.data.toList))))):=⟨rfl⟩
 have i:=IM v.J (w.alloc (.cells #[I6 v.u,I6 v.num,.string v.J] 187)) f;have g:Hid ((v.u==0)=true->(v.u==1)=false):=λh=>by simp at h;simp[h]
 cases b:(v.u==0)<;>cases c:v.J.toList.isEmpty<;>cases a:(v.u==1)<;>cases d:(v.num==0)
 all_goals
  first
  |(exfalso;have:=g.o b;rw[a]at this;cases this;done)
  | (go_enter func256,ntmps256
     go_wp2_with (go_at_call 197;refine i.j ?_;rintro e w' ⟨rfl,rfl⟩);go_ret;exact⟨AL (by rw[G.o,b,c,a,d];simp),Aj⟩)
end Go.Proofs.YtikojfajahnhgaaGreat
