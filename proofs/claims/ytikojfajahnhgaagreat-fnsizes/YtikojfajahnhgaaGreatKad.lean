import Derived.Test.YtikojfajahnhgaaGreatKac
import Derived.Test.YtikojfajahnhgaaGreatKab
set_option linter.all false
set_option maxHeartbeats 800000
namespace Go.Proofs.YtikojfajahnhgaaGreat
attribute [local simp] At I6 Pn mzI
attribute [local go_sem] At I6 Pn
open Go.RowKit Go.Proofs.Tryz
def XO(c w) :
  Ca 246 #[.int .u8 c] w λe w'=>e=.returned (.bool (F7 c))/\w'=w:=by
 go_enter func246,ntmps246;go_wp2
 all_goals (go_ret;exact⟨by simp[F7];omega,rfl⟩)
def zmz(c w) :
  Ca 247 #[.int .u8 c] w λe w'=>e=.returned (.bool (Mw c))/\w'=w:=by
 go_enter func247,ntmps247;go_wp2
 all_goals (go_ret;exact⟨by simp[Mw];omega,rfl⟩)
def TF(s:ByteArray):s.data.toList.length=s.size:=by
 obtain⟨⟨l⟩⟩:=s;rfl
def VN(s:ByteArray)(h:0<s.size):s.data.toList.headD 0=s[0]:=by
 obtain⟨⟨l⟩⟩:=s;cases l with
 |nil=>exact absurd h (WA 0)
 |cons a l=>rfl
def iL(s:ByteArray)(k)(h:k<s.size):s.data.toList[k]'(by rw[TF];exact h)=s[k]:=by
 obtain⟨⟨l⟩⟩:=s;rfl
def kJ{s:ByteArray}{k}(a:k<s.size)(h:IU (s[k].toNat:Int)=false):Aq s.data.toList=false:=
 vL (k:=k) (by rw[TF];exact a) (by rw[iL s k a];exact h)
def X3{s:ByteArray}{k}(a:k<s.size)(h:(s.data.toList.take k).all Hq=true)(b:IU (s[k].toNat:Int)=true):(s.data.toList.take (k+1)).all Hq=true:=
 zj9 (by rw[TF];exact a) h (by rw[iL s k a];exact b)
def zi9{s:ByteArray}{k}(a:0<s.size)(d:s.size<=20)(c:F7 (s[0].toNat:Int)=true)(e:s.size<=k)(b:(s.data.toList.take k).all Hq=true):Aq s.data.toList=true:=by
 refine zt Nu Nu (by rw[VN s a];exact c) ?_;rwa [yT Nu]at b
def tK(c):IU c=(F7 c||Mw c||!(c != 45)):=by
 unfold IU;congr 1;by_cases h:c=45<;>simp[h]
def r8{c}(h:(97<=c/\c<=122)∨(48<=c/\c<=57)∨(44<c/\c<46)):IU c=true:=by
 simp[IU,F7,Mw];omega
def uT{c}(h:¬((97<=c/\c<=122)∨(48<=c/\c<=57)∨(44<c/\c<46))):IU c=false:=by
 simp[IU,F7,Mw];omega
def AL{a b}(h:a=b):Ending.returned (.bool a)=.returned (.bool b):=by rw[h]
def od{P:Prop}(h:P:=by go_wp2;go_ret;exact⟨AL (zi9 hp (by omega) H2.o (by omega) HA.o).y,rfl⟩):P:=h
def QO{P:Prop}(h:P:=by go_ret;exact⟨AL G.o.y,rfl⟩):P:=h
def IM(s w)(g:s.size<=maxLen) :
  Ca 197 #[.string s] w λe w'=>e=.returned (.bool (Aq s.data.toList))/\w'=w:=by
 unfold maxLen at g;by_cases q:s.size<1
 .have G:Hid (Aq s.data.toList=false):=Te (s:=s.data.toList) Nu;have l:(s.size:Int)<1:=qd;go_enter func197,ntmps197;go_wp2;exact QO
 by_cases n:20<s.size
 .have G:Hid (Aq s.data.toList=false):=lE (s:=s.data.toList) Nu;have l:(20:Int)<s.size:=qd;go_enter func197,ntmps197;go_wp2;exact QO
 have hp:0<s.size:=qd;have r:decide ((s.size:Int)<1)=false:=by simp;omega
 have p:decide ((20:Int)<s.size)=false:=by simp;omega
 by_cases h2:F7 (s[0].toNat:Int)=true
 .have H2:Hid (F7 (s[0].toNat:Int)=true):=h2;go_enter func197,ntmps197;go_wp2_with (go_at_call 246;refine(XO _ _).j ?_;rintro e w' ⟨rfl,rfl⟩);clear h2
  go_loop [3] (λi=>∃k:Nat,1<=k/\k<=s.size/\i=I6 k/\(s.data.toList.take k).all Hq=true) (λi=>s.size-(intOf i).toNat)
  case atStart=>exact⟨1,qd,qd,rfl,X3 (k:=0) hp qe (wj H2.o)⟩
  case round=>
   obtain⟨k,u,t,rfl,O⟩:=hrel;have HA:Hid ((s.data.toList.take k).all Hq=true):=O;clear O;by_cases b:k<s.size
   .obtain⟨f⟩:Nonempty (Hid (IU (s[k].toNat:Int)=(F7 (s[k].toNat:Int)||Mw (s[k].toNat:Int)||!((s[k].toNat:Int) != 45)))):=⟨tK _⟩
    cases a:F7 (s[k].toNat:Int)<;>cases c:Mw (s[k].toNat:Int)<;>cases d:((s[k].toNat:Int) != 45)
    all_goals
     go_wp2_with (first|(go_at_call 246;refine(XO _ _).j ?_;rintro e w' ⟨rfl,rfl⟩)|(go_at_call 247;refine(zmz _ _).j ?_;rintro e w' ⟨rfl,rfl⟩))
     first
     | (go_round
        case rel=>exact⟨k+1,qd,qd,qm,X3 b HA.o (by rw[f.o,a,c,d];rfl)⟩
        case measure=>simp[intOf];omega)
     | (go_ret
        exact⟨AL (kJ b (by rw[f.o,a,c,d];rfl)).y,rfl⟩)
   exact od
 have m:F7 (s[0].toNat:Int)=false:=qu;have G:Hid (Aq s.data.toList=false):=ku (by rw[VN s hp];exact m);clear h2;go_enter func197,ntmps197;go_wp2_with (go_at_call 246;refine(XO _ _).j ?_;rintro e w' ⟨rfl,rfl⟩);exact QO
def He(s w)(n:s.size<=maxLen) :
  Ca 116 #[.string s] w λe w'=>e=.returned (.bool (Aq s.data.toList))/\w'=w:=by
 unfold maxLen at n;by_cases z:s.size<1
 .have G:Hid (Aq s.data.toList=false):=Te (s:=s.data.toList) Nu;have t:(s.size:Int)<1:=qd;go_enter func116,ntmps116;go_wp2;exact QO
 by_cases v:20<s.size
 .have G:Hid (Aq s.data.toList=false):=lE (s:=s.data.toList) Nu;have t:(20:Int)<s.size:=qd;go_enter func116,ntmps116;go_wp2;exact QO
 have hp:0<s.size:=qd;have A:decide ((s.size:Int)<1)=false:=by simp;omega
 have x:decide ((20:Int)<s.size)=false:=by simp;omega
 by_cases h2:F7 (s[0].toNat:Int)=true
 .have H2:Hid (F7 (s[0].toNat:Int)=true):=h2;simp only[F7,yi,decide_eq_true_eq]at h2;obtain⟨l,j⟩:=h2;have g:decide ((s[0].toNat:Int)<97)=false:=by simp;omega
  have p:decide ((122:Int)<(s[0].toNat:Int))=false:=by simp;omega
  go_enter func116,ntmps116;go_wp2;clear l j g p
  go_loop [3] (λi=>∃k:Nat,k<=s.size/\i=I6 k/\(s.data.toList.take k).all Hq=true) (λi=>s.size-(intOf i).toNat)
  case atStart=>exact⟨0,qd,rfl,qe⟩
  case round=>
   obtain⟨k,B,rfl,d⟩:=hrel;have HA:Hid ((s.data.toList.take k).all Hq=true):=d;clear d;by_cases f:k<s.size
   .rcases(show(s[k].toNat:Int)<45∨(44<(s[k].toNat:Int)/\(s[k].toNat:Int)<46)∨(45<(s[k].toNat:Int)/\(s[k].toNat:Int)<48)∨(48<=(s[k].toNat:Int)/\(s[k].toNat:Int)<=57)∨(57<(s[k].toNat:Int)/\(s[k].toNat:Int)<97)∨(97<=(s[k].toNat:Int)/\(s[k].toNat:Int)<=122)∨122<(s[k].toNat:Int) from by omega) with a|⟨a,O⟩|⟨a,O⟩|⟨a,O⟩|⟨a,O⟩|⟨a,O⟩|a
    all_goals
     first
     |have m:((s[k].toNat:Int)==45)=false:=qf
     |have m:((s[k].toNat:Int)==45)=true:=qf
     first
     |have r:decide ((s[k].toNat:Int)<=57)=false:=qf
     |have r:decide ((s[k].toNat:Int)<=57)=true:=qf
     first
     |have q:decide ((s[k].toNat:Int)<=122)=false:=qf
     |have q:decide ((s[k].toNat:Int)<=122)=true:=qf
     go_wp2
     first
     | (go_round
        case rel=>exact⟨k+1,qd,qm,X3 f HA.o (r8 qd)⟩
        case measure=>simp[intOf];omega)
     | (go_ret
        exact⟨AL (kJ f (uT qd)).y,rfl⟩)
   exact od
 have c:F7 (s[0].toNat:Int)=false:=qu;have G:Hid (Aq s.data.toList=false):=ku (by rw[VN s hp];exact c);clear h2;have b:(s[0].toNat:Int)<97∨(97<=(s[0].toNat:Int)/\122<(s[0].toNat:Int)):=by
  simp only[F7,WC,decide_eq_false_iff_not]at c;omega
 rcases b with b|⟨b,u⟩
 all_goals
  clear c;go_enter func116,ntmps116;go_wp2;go_ret;exact⟨AL G.o.y,rfl⟩
end Go.Proofs.YtikojfajahnhgaaGreat
