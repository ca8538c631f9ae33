import Derived.Test.YtikojfajahnhgaaGreatKag
set_option linter.all false
namespace Go.Proofs.YtikojfajahnhgaaGreat
attribute [local simp] At I6 Pn mzI
attribute [local go_sem] At I6 Pn
open Go.Proofs.Tryz
def Bf(v:V):Bool:=(v.u==0&&v.J.toList.isEmpty)||(v.u==1&&(v.num==0&&Aq v.J.data.toList))
def C4(vs:List V):Bool:=decide (vs.length<=6)&&vs.all Bf
def Hi(last:Int)(f:F):Bool:=decide (last<f.tag)&&(decide (f.tag<=1000000)&&(Aq f.z.data.toList&&C4 f.s))
def BN(last:Int):List F->Bool
 |[]=>true
 |f::r=>Hi last f&&BN f.tag r
def C8(fs:List F):Bool:=decide (fs.length<=40)&&BN 0 fs
def GU(sg:Bool)(f g:F):Bool:=!(sg&&(decide (g.z=f.z)&&decide (f.s=g.s)))
def CO(sg:Bool)(f:F)(pre:List F):Bool:=pre.all (GU sg f)
def Bo(sg:Bool)(nx:Int):List F->List F->Bool
 |_,[]=>true
 |pre,f::r=>decide (f.tag<nx)&&(CO sg f pre&&Bo sg nx (pre++[f]) r)
def FO(fs:List F)(nx cp:Int):Bool:=decide (0<=cp)&&(decide (cp<=40)&&(decide ((fs.length:Int)<=cp)&&(C8 fs&&(decide (1<=nx)&&decide (nx<=1000001)))))
def B_(fs:List F)(nx cp:Int)(sg:Bool):Bool:=FO fs nx cp&&Bo sg nx [] fs
abbrev Lk:=ByteArray × List V
def Bi(f:F):Lk:=(f.z,f.s)
def PJ{f g}:Bi f=Bi g↔f.z=g.z/\f.s=g.s:=YO _ _ _ _▸Iff.rfl
def Oh(nx:Int)(fs:List F):Bool:=match fs.getLast? with|some f=>decide (f.tag<nx)|none=>true
def LV(fs:List F)(nx cp:Int)(sg:Bool):Bool:=FO fs nx cp&&(Oh nx fs&&(!sg||decide ((fs.map Bi).Nodup)))
def XE{last}:∀{fs:List F},BN last fs=true->∀f∈fs,∀l,fs.getLast?=some l->f.tag<=l.tag
 |[],_,f,hf,_,_=>by simp at hf
 |g::r,h,f,hf,l,hl=>by
  simp only[BN,yi]at h
  cases r with
  |nil=>
   simp at hf hl
   subst hf
   subst hl
   exact Y8 _
  |cons O c=>
   have a:(O::c).getLast?=some l:=Lu
   rcases yG.1 hf with rfl|d
   .have e:=XE h.2 O qe l a
    have b:=h.2
    simp only[BN,Hi,yi,decide_eq_true_eq]at b
    omega
   exact XE h.2 f d l a
def zn7{last nx fs}(h:BN last fs=true):Oh nx fs=fs.all (λf=>decide (f.tag<nx)):=by
 unfold Oh;cases hl:fs.getLast? with
 |none=>
  have:fs=[]:=Lu;simp[this]
 |some l=>
  have b:l∈fs:=List.mem_of_getLast? hl;by_cases a:l.tag<nx
  .have:fs.all (λf=>decide (f.tag<nx))=true:=by
    rw[Yy];intro f c;have:=XE h f c l hl;simp;omega
   simp[this,a]
  have:fs.all (λf=>decide (f.tag<nx))=false:=by
   rw[W7];exact⟨l,b,by simpa using a⟩
  simp[this,a]
def zmF(sg:Bool)(nx:Int):∀(fs pre:List F),Bo sg nx pre fs=(fs.all (λf=>decide (f.tag<nx))&&Bo sg (nx) pre fs)
 |[],_=>by simp[Bo]
 |f::r,pre=>by
  simp only[Bo,YP]
  rw[zmF sg nx r (pre++[f])]
  cases decide (f.tag<nx)<;>cases CO sg f pre<;>cases r.all (λf=>decide (f.tag<nx))<;>cases Bo sg nx (pre++[f]) r<;>rfl
def XY(nx):∀(fs pre:List F),Bo false nx pre fs=fs.all (λf=>decide (f.tag<nx))
 |[],_=>by simp[Bo]
 |f::r,pre=>by
  simp only[Bo,YP]
  rw[XY nx r (pre++[f])]
  have:CO false f pre=true:=by simp[CO,GU]
  simp[this]
def lC(f pre):CO true f pre=true↔Bi f ∉ pre.map Bi:=by
 unfold CO;rw[Yy];constructor
 .intro h e;obtain⟨g,a,b⟩:=yz.1 e;have:=h g a;rw[PJ]at b;simp[GU,b.1,b.2]at this
 intro h g a;simp only[GU,YJ,WG,WC,decide_eq_false_iff_not];by_cases c:g.z=f.z
 .right;intro d;exact h (yz.2 ⟨g,a,PJ.2 ⟨c,d.y⟩⟩)
 left;exact c
def Xz(nx):∀(fs pre:List F),(pre.map Bi).Nodup->Bo true nx pre fs=(fs.all (λf=>decide (f.tag<nx))&&decide (((pre++fs).map Bi).Nodup))
 |[],pre,h=>by simp[Bo,h]
 |f::r,pre,h=>by
  simp only[Bo,YP]
  by_cases c:Bi f∈pre.map Bi
  .have:¬((pre++f::r).map Bi).Nodup:=by
    rw[yF,yK];rintro⟨_,_,i⟩;exact i (Bi f) c (Bi f) qe rfl
   have j:CO true f pre=false:=by
    cases k:CO true f pre
    .rfl
    exact absurd c ((lC f pre).1 k)
   rw[decide_eq_false this,j];simp
  have O:((pre++[f]).map Bi).Nodup:=by
   rw[yF,yK];refine⟨h,qe,?_⟩;intro a g b d;simp at d;subst d;intro e;exact c (e▸g)
  rw[Xz nx r (pre++[f]) O,(lC f pre).2 c,YJ,yW,Bool.and_assoc];rfl
def xd(fs nx cp sg):LV fs nx cp sg=B_ fs nx cp sg:=by
 unfold LV B_;cases a:FO fs nx cp with
 |false=>rfl
 |true=>
  have b:BN 0 fs=true:=by
   simp only[FO,C8,yi]at a;exact a.2.2.2.1.2
  rw[zn7 b];cases sg with
  |false=>simp[XY]
  |true=>
   rw[Xz nx fs [] qe];simp
end Go.Proofs.YtikojfajahnhgaaGreat
