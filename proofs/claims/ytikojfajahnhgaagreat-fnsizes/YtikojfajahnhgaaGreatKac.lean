import Derived.Test.YtikojfajahnhgaaGreatQz
set_option linter.all false
namespace Go
open Go.RowKit in
def Zh(w:World):∀o,Below w.heap.size w (w.alloc o):=λo=>(Below.refl _ _).alloc (Nat.le_refl _) o
open Go.RowKit in
def Er(w:World):Hid (∀o,Below w.heap.size w (w.alloc o)):=Zh w
def Calls.rtn{P:Program}{f:FuncId}{args:Array Value}{w:World}{v:Value}{Q:World->Prop}{R:Ending->World->Prop}(h:Calls P f args w λe w'=>e=.returned v/\Q w')(k:∀w',Q w'->R (.returned v) w'):Calls P f args w R:=h.j λ_ _⟨e,q⟩=>e▸k _ q
end Go
namespace Go.RowKit
def Below.thn{w u v:World}(h:Below w.heap.size w u)(k:Below u.heap.size u v):Below w.heap.size w v:=h.c (k.j h.size)
end Go.RowKit
namespace Go.Proofs.YtikojfajahnhgaaGreat
open Go.RowKit Go.Proofs.Tryz
abbrev Bw(w w':World):Prop:=Below w.heap.size w w'
abbrev At(w:World)(b o:Nat)(v:Value):Prop:=w.cell? ⟨b,o,none⟩=some v
abbrev I6(n:Int):Value:=.int .i64 n
abbrev Pn(b:Nat):Value:=.pointer (some ⟨b,0,none⟩)
def An{B w}:Below B w w:=yX B w
def AH{n:Nat}:n<=n:=yu n
def Aj{w:World}{o}:Below w.heap.size w (w.alloc o):=(yX _ _).alloc (yu _) _
def AX{w:World}{o o'}:Below w.heap.size w ((w.alloc o).alloc o'):=Aj.alloc qe _
def Bj{w:World}{o o' p}:Below w.heap.size w (((w.alloc o).alloc o').alloc p):=AX.alloc qf _
def E6{w:World}(o):Below w.heap.size w (w.alloc o):=Aj
def LC{w:World}(o o'):Below w.heap.size w ((w.alloc o).alloc o'):=AX
def Ba{α:Type}{l:List α}{k:Nat}(h:k<l.length):∃x,l[k]?=some x:=⟨l[k],by simp[h]⟩
def mz(n:Nat)(i:Value)(_w:World):Nat:=n-(intOf i).toNat
def mzI(n:Nat)(k:Int)(w:World):mz n (.int .i64 k) w=n-k.toNat:=rfl
attribute [local simp] At I6 Pn mzI
attribute [local go_sem] At I6 Pn
end Go.Proofs.YtikojfajahnhgaaGreat
