import Derived.Test.YtikojfajahnhgaaGreatQz
set_option linter.all false
namespace Go.Proofs.YtikojfajahnhgaaGreat
open Go.Proofs.Tryz
def F7(c:Int):Bool:=decide (97<=c)&&decide (c<=122)
def Mw(c:Int):Bool:=decide (48<=c)&&decide (c<=57)
def IU(c:Int):Bool:=F7 c||Mw c||decide (c=45)
def UA(c:UInt8):Bool:=F7 (c.toNat:Int)
def Hq(c:UInt8):Bool:=IU (c.toNat:Int)
def Aq(s:List UInt8):Bool:=decide (1<=s.length)&&decide (s.length<=20)&&UA (s.headD 0)&&s.all Hq
def wj{c}(h:F7 c=true):IU c=true:=by simp[IU,h]
def Te{s}(h:s.length=0):Aq s=false:=by simp[Aq,h]
def lE{s}(h:20<s.length):Aq s=false:=by
 have:decide (s.length<=20)=false:=qq;simp[Aq,this]
def ku{s}(h:UA (s.headD 0)=false):Aq s=false:=by simp only[Aq,h,Wg,WH]
def vL{s k}(a:k<s.length)(h:Hq s[k]=false):Aq s=false:=by
 have:s.all Hq=false:=by
  rw[W7];exact⟨s[k],YI a,by simp[h]⟩
 simp[Aq,this]
def zt{s}(b:1<=s.length)(a:s.length<=20)(d:UA (s.headD 0)=true)(c:s.all Hq=true):Aq s=true:=by
 simp only[Aq,d,c,WS,yi,decide_eq_true_eq];exact⟨b,a⟩
def zj9{s:List UInt8}{k}(b:k<s.length)(h:(s.take k).all Hq=true)(a:Hq s[k]=true):(s.take (k+1)).all Hq=true:=by
 rw[Ka b,Zl,h];simp[a]
end Go.Proofs.YtikojfajahnhgaaGreat
