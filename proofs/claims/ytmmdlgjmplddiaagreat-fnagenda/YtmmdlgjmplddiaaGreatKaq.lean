/-
  OUR OWN TEXT. Im10, TyA0, one behind the other.
-/
import Derived.Test.YtmmdlgjmplddiaaGreatKak
import Derived.Test.YtmmdlgjmplddiaaGreatKaj
import Derived.Test.YtmmdlgjmplddiaaGreatKai
import Derived.Test.YtmmdlgjmplddiaaGreatKah
namespace Go.Proofs.YtmmdlgjmplddiaaGreat
open Go.RowKit
def zkW (f:F):Bool:=decide (1≤f.tag) && (decide (f.tag≤1000000) && (gSym f.cls.data.toList && zbn f.slots))
theorem zgr {f:F}{x:Bool} (h:1≤f.tag) (e:zkW f=x):(decide (f.tag≤1000000) && (gSym f.cls.data.toList && zbn f.slots))=x:=by
 unfold zkW at e
 rwa [decide_eq_true h,Bool.true_and] at e
set_option maxHeartbeats 800000 in
theorem zc8 (v:V) (w:World) (hs:v.sym.size≤maxLen) :
  Calls Tryz.prog 138 #[.agg #[.int .i64 v.kind,.int .i64 v.num,.string v.sym]] w fun e w'=>
   e=.returned (.bool (gVal v))∧Below w.heap.size w w':=by
 have B1:∀ o,Below w.heap.size w (w.alloc o):=fun o=>(Below.refl _ _).alloc (Nat.le_refl _) _
 obtain ⟨G⟩:Nonempty (Hid (gVal v=((v.kind==0 && v.sym.toList.isEmpty) || (v.kind==1 && (v.num==0 && gSym v.sym.data.toList))))):=⟨rfl⟩
 have hg:=zaO v.sym (w.alloc (.cells #[.int .i64 v.kind,.int .i64 v.num,.string v.sym] 109)) hs
 have hx:Hid ((v.kind==0)=true→(v.kind==1)=false):=fun h=>by simp at h;simp [h]
 cases h1:(v.kind==0) <;> cases h2:v.sym.toList.isEmpty <;> cases h3:(v.kind==1) <;> cases h4:(v.num==0)
 all_goals
  first
  | (exfalso;have:=hx.out h1;rw [h3] at this;cases this;done)
  | (go_enter Tryz.func138,Tryz.ntmps138
     go_wp2_with (go_at_call 106;refine hg.mono ?_;rintro e w' ⟨rfl,rfl⟩)
     go_ret
     exact ⟨zac (by rw [G.out,h1,h2,h3,h4];simp),B1 _⟩)
end Go.Proofs.YtmmdlgjmplddiaaGreat
namespace Go.Proofs.YtmmdlgjmplddiaaGreat
open Go.RowKit
structure Tt where
 slot:Int
 op:Int
 other:Int
 val:V
def Tt.R (_:World) (r:List Value) (x:Tt):Prop:=r=[.int .i64 x.slot,.int .i64 x.op,.int .i64 x.other,.int .i64 x.val.kind,.int .i64 x.val.num,.string x.val.sym]
abbrev zcp (q:Option Nat) (w:World) (a:Option Addr) (xs:List Tt):Prop:=zaD Tt.R q 111 6 w a xs
theorem zcp.below {q:Option Nat}{w w':World}{a:Option Addr}{xs:List Tt} (h:zcp q w a xs) (hb:Below w.heap.size w w'):zcp q w' a xs:=zaD.below h (fun _ _ _ h=>h) hb
theorem zcp.low {B:Nat}{w w':World}{a:Option Addr}{xs:List Tt} (h:zcp (some B) w a xs) (hb:Low B w w'):zcp (some B) w' a xs:=zaD.low h (fun _ _ _ h=>h) hb
theorem zcp.bare {q:Option Nat}{w:World}{a:Option Addr}{xs:List Tt} (h:zcp q w a xs):zcp none w a xs:=zaD.weak h (fun b _=>Qb.bare _ _ b) (fun _ _ _ h=>h)
theorem zcp.get {q:Option Nat}{w:World}{a:Option Addr}{xs:List Tt}{i:Nat}{x:Tt} (h:zcp q w a xs) (hi:xs[i]?=some x):∃ b o,a=some ⟨b,o,none⟩∧Qb q w 111 b∧w.cell? ⟨b,o+i * 6,none⟩=some (.int .i64 x.slot)∧w.cell? ⟨b,o+i * 6+1,none⟩=some (.int .i64 x.op)∧w.cell? ⟨b,o+i * 6+2,none⟩=some (.int .i64 x.other)∧w.cell? ⟨b,o+i * 6+3,none⟩=some (.int .i64 x.val.kind)∧w.cell? ⟨b,o+i * 6+4,none⟩=some (.int .i64 x.val.num)∧w.cell? ⟨b,o+i * 6+5,none⟩=some (.string x.val.sym):=by
 obtain ⟨b,o,r,h1,h2,h3,h4,h5⟩:=h i x hi
 subst h5
 exact ⟨b,o,h1,h2,h4 0 _ rfl,h4 1 _ rfl,h4 2 _ rfl,h4 3 _ rfl,h4 4 _ rfl,h4 5 _ rfl⟩
def Tt.le (N:Nat) (x:Tt):Prop:=x.val.sym.size≤N
structure Al where
 cls:ByteArray
 arity:Int
 tests:List Tt
def Al.R (q:Option Nat) (w:World) (r:List Value) (x:Al):Prop:=∃ a_tests c_tests,r=[.string x.cls,.int .i64 x.arity,.slice a_tests x.tests.length c_tests]∧zcp q w a_tests x.tests
abbrev zha (q:Option Nat) (w:World) (a:Option Addr) (xs:List Al):Prop:=zaD (Al.R q) q 57 3 w a xs
theorem zha.below {q:Option Nat}{w w':World}{a:Option Addr}{xs:List Al} (h:zha q w a xs) (hb:Below w.heap.size w w'):zha q w' a xs:=zaD.below h (fun _ _ _ ⟨a_tests,c_tests,e,h_tests⟩=>⟨a_tests,c_tests,e,h_tests.below hb⟩) hb
theorem zha.low {B:Nat}{w w':World}{a:Option Addr}{xs:List Al} (h:zha (some B) w a xs) (hb:Low B w w'):zha (some B) w' a xs:=zaD.low h (fun _ _ _ ⟨a_tests,c_tests,e,h_tests⟩=>⟨a_tests,c_tests,e,h_tests.low hb⟩) hb
theorem zha.bare {q:Option Nat}{w:World}{a:Option Addr}{xs:List Al} (h:zha q w a xs):zha none w a xs:=zaD.weak h (fun b _=>Qb.bare _ _ b) (fun _ _ _ ⟨a_tests,c_tests,e,h_tests⟩=>⟨a_tests,c_tests,e,h_tests.bare⟩)
def Al.le (N:Nat) (x:Al):Prop:=x.cls.size≤N∧zbu Tt.le N x.tests
end Go.Proofs.YtmmdlgjmplddiaaGreat
