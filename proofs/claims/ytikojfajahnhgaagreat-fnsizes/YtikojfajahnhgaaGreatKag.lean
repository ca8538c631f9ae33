import Derived.Test.YtikojfajahnhgaaGreatKab
import Derived.Test.YtikojfajahnhgaaGreatKae
set_option linter.all false
namespace Go.Proofs.YtikojfajahnhgaaGreat
attribute [local simp] At I6 Pn mzI
attribute [local go_sem] At I6 Pn
open Go.RowKit Go.Proofs.Tryz
abbrev V:=Int × Int × ByteArray
def V.u(v:V):Int:=v.1
def V.num(v:V):Int:=v.2.1
def V.J(v:V):ByteArray:=v.2.2
def V.same{v u:V}(b:v.u=u.u)(a:v.num=u.num)(c:v.J=u.J):v=u:=Prod.ext b (Prod.ext a c)
structure F where
 tag:Int
 z:ByteArray
 s:List V
def Bt(w:World)(a:Option Addr)(vs:List V):Prop:=
 ∀ (i:Nat) (v:V),vs[i]?=some v->∃ b o,a=some ⟨b,o,none⟩/\w.cell? ⟨b,o+i * 3,none⟩=some (.int .i64 v.u) /\
  w.cell? ⟨b,o+i*3+1,none⟩=some (.int .i64 v.num)/\w.cell? ⟨b,o+i*3+2,none⟩=some (.string v.J)
def Bz(w:World)(a:Option Addr)(fs:List F):Prop:=
 ∀ (i:Nat) (f:F),fs[i]?=some f->∃ b o,a=some ⟨b,o,none⟩/\w.cell? ⟨b,o+i * 3,none⟩=some (.int .i64 f.tag) /\
  w.cell? ⟨b,o+i*3+1,none⟩=some (.string f.z)/\∃a' c,w.cell? ⟨b,o+i*3+2,none⟩=some (.slice a' f.s.length c)/\Bt w a' f.s
def zab{w w' p x}(a:Bw w w')(h:w.cell? p=some x):w'.cell? p=some x:=by
 rw[a.cell (p:=p) ?_]
 .exact h
 unfold World.cell? at h;by_cases b:p.block<w.heap.size
 .exact b
 rw[Kd qd]at h;simp at h
def Bt.d{w w' a vs}(h:Bt w a vs)(c:Bw w w'):Bt w' a vs:=by
 intro i v hv;obtain⟨b,o,rfl,g,e,f⟩:=h i v hv;exact⟨b,o,rfl,zab c g,zab c e,zab c f⟩
def Bz.d{w w' a fs}(h:Bz w a fs)(e:Bw w w'):Bz w' a fs:=by
 intro i f n;obtain⟨b,o,rfl,m,g,k,c,l,j⟩:=h i f n;exact⟨b,o,rfl,zab e m,zab e g,k,c,zab e l,j.d e⟩
def V.cells(v:V):List Value:=[.int .i64 v.u,.int .i64 v.num,.string v.J]
def A4(f:F)(x:Value):List Value:=[.int .i64 f.tag,.string f.z,x]
def Bt.Q{w g t N vs}(h:Bq w g t 3 N (vs.map V.cells)):Bt w (some ⟨g,0,none⟩) vs:=by
 intro i v hv;have a:(vs.map V.cells)[i]?=some v.cells:=by simp[hv]
 refine⟨g,0,rfl,?_,?_,?_⟩
 .simpa using h.cell a (j:=0) rfl
 .simpa using h.cell a (j:=1) rfl
 simpa using h.cell a (j:=2) rfl
def EB{k a b}(h:a=b):Ending.returned (.int k a)=.returned (.int k b):=by rw[h]
end Go.Proofs.YtikojfajahnhgaaGreat
