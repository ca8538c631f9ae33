/-
  OUR OWN TEXT. The plain mathematics of Chapter 1: nothing of the program, nothing of the walk.
-/
namespace Go.Proofs.YtmmdlgjmplddiaaGreat
def isL (c:Int):Bool:=decide (97≤c) && decide (c≤122)
def isD (c:Int):Bool:=decide (48≤c) && decide (c≤57)
def isC (c:Int):Bool:=isL c || isD c || decide (c=45)
def zn2 (c:UInt8):Bool:=isL (c.toNat:Int)
def zd6 (c:UInt8):Bool:=isC (c.toNat:Int)
def gSym (s:List UInt8):Bool:=decide (1≤s.length) && decide (s.length≤20) && zn2 (s.headD 0) && s.all zd6
theorem zj4 {c:Int} (h:isL c=true):isC c=true:=by simp [isC,h]
theorem zdy {s:List UInt8} (h:s.length=0):gSym s=false:=by simp [gSym,h]
theorem zh0 {s:List UInt8} (h:20<s.length):gSym s=false:=by
 have:decide (s.length≤20)=false:=by simpa using h
 simp [gSym,this]
theorem zhu {s:List UInt8} (h:zn2 (s.headD 0)=false):gSym s=false:=by simp only [gSym,h,Bool.and_false,Bool.false_and]
theorem znx {s:List UInt8}{k:Nat} (hk:k<s.length) (h:zd6 s[k]=false):gSym s=false:=by
 have:s.all zd6=false:=by
  rw [List.all_eq_false]
  exact ⟨s[k],List.getElem_mem hk,by simp [h]⟩
 simp [gSym,this]
theorem zkV {s:List UInt8} (h1:1≤s.length) (h2:s.length≤20) (h3:zn2 (s.headD 0)=true) (h4:s.all zd6=true):gSym s=true:=by
 simp only [gSym,h3,h4,Bool.and_true,Bool.and_eq_true,decide_eq_true_eq]
 exact ⟨h1,h2⟩
theorem zg5 {s:List UInt8}{k:Nat} (hk:k<s.length) (h:(s.take k).all zd6=true) (hc:zd6 s[k]=true):(s.take (k+1)).all zd6=true:=by
 rw [List.take_succ_eq_append_getElem hk,List.all_append,h]
 simp [hc]
end Go.Proofs.YtmmdlgjmplddiaaGreat
