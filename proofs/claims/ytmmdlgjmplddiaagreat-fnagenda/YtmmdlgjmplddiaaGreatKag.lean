/-
  OUR OWN TEXT. Mem, Copy, one behind the other.
-/
import Derived.Test.YtmmdlgjmplddiaaGreatRows
import Derived.Test.YtmmdlgjmplddiaaGreatPlain
import Derived.Test.YtmmdlgjmplddiaaGreatOwnm
import Derived.Laws.CopyOwn
namespace Go.Proofs.YtmmdlgjmplddiaaGreat
open Go.RowKit
abbrev V:=Int × Int × ByteArray
def V.kind (v:V):Int:=v.1
def V.num (v:V):Int:=v.2.1
def V.sym (v:V):ByteArray:=v.2.2
theorem V.same {v u:V} (h1:v.kind=u.kind) (h2:v.num=u.num) (h3:v.sym=u.sym):v=u:=Prod.ext h1 (Prod.ext h2 h3)
structure F where
 tag:Int
 cls:ByteArray
 slots:List V
def zaV (w:World) (a:Option Addr) (vs:List V):Prop:=
 ∀ (i:Nat) (v:V),vs[i]?=some v→∃ b o,a=some ⟨b,o,none⟩∧w.cell? ⟨b,o+i * 3,none⟩=some (.int .i64 v.kind) ∧
  w.cell? ⟨b,o+i * 3+1,none⟩=some (.int .i64 v.num)∧w.cell? ⟨b,o+i * 3+2,none⟩=some (.string v.sym)
def zaH (w:World) (a:Option Addr) (fs:List F):Prop:=
 ∀ (i:Nat) (f:F),fs[i]?=some f→∃ b o,a=some ⟨b,o,none⟩∧w.cell? ⟨b,o+i * 3,none⟩=some (.int .i64 f.tag) ∧
  w.cell? ⟨b,o+i * 3+1,none⟩=some (.string f.cls)∧∃ a' c,w.cell? ⟨b,o+i * 3+2,none⟩=some (.slice a' f.slots.length c)∧zaV w a' f.slots
theorem zaa {w w':World}{p:Addr}{x:Value} (hb:Below w.heap.size w w') (h:w.cell? p=some x):w'.cell? p=some x:=by
 rw [hb.cell (p:=p) ?_]
 ·exact h
 ·unfold World.cell? at h
  by_cases hp:p.block<w.heap.size
  ·exact hp
  ·rw [Array.getElem?_eq_none (by omega)] at h
   simp at h
theorem zaV.below {w w':World}{a:Option Addr}{vs:List V} (h:zaV w a vs) (hb:Below w.heap.size w w'):zaV w' a vs:=by
 intro i v hv
 obtain ⟨b,o,rfl,h1,h2,h3⟩:=h i v hv
 exact ⟨b,o,rfl,zaa hb h1,zaa hb h2,zaa hb h3⟩
theorem zaH.below {w w':World}{a:Option Addr}{fs:List F} (h:zaH w a fs) (hb:Below w.heap.size w w'):zaH w' a fs:=by
 intro i f hf
 obtain ⟨b,o,rfl,h1,h2,a',c,h3,h4⟩:=h i f hf
 exact ⟨b,o,rfl,zaa hb h1,zaa hb h2,a',c,zaa hb h3,h4.below hb⟩
def V.cells (v:V):List Value:=[.int .i64 v.kind,.int .i64 v.num,.string v.sym]
def fcells (f:F) (x:Value):List Value:=[.int .i64 f.tag,.string f.cls,x]
theorem zaV.own {w:World}{g:Nat}{t:TypeId}{N:Nat}{vs:List V} (h:OwnB w g t 3 N (vs.map V.cells)):zaV w (some ⟨g,0,none⟩) vs:=by
 intro i v hv
 have hi:(vs.map V.cells)[i]?=some v.cells:=by simp [hv]
 refine ⟨g,0,rfl,?_,?_,?_⟩
 ·simpa using h.cell hi (j:=0) rfl
 ·simpa using h.cell hi (j:=1) rfl
 ·simpa using h.cell hi (j:=2) rfl
theorem zbk {k:IntKind}{a b:Int} (h:a=b):Ending.returned (.int k a)=.returned (.int k b):=by rw [h]
end Go.Proofs.YtmmdlgjmplddiaaGreat
namespace Go.Proofs.YtmmdlgjmplddiaaGreat
open Go.RowKit
theorem zhf {P:Program} (w:World) (dT sT ty elem:TypeId) (b o dLen dCap:Nat) (sp:Option Addr) (sLen sCap m:Nat) (cs:List Value)
  (hu:P.underlying dT=some (.slice elem)) (hs:(P.info? elem).map (·.size)=some m) (hn:cs.length=Nat.min sLen dLen * m)
  (hnil:sp=none→sLen=0)
  (hsrc:∀ a,sp=some a→∀ j v,cs[j]?=some v→w.cell? (a.add j)=some v) (hc:∀ j,j<cs.length→(w.cell? ⟨b,o+j,none⟩).isSome=true) (hf:∀ j,j<cs.length→w.frozen? ⟨b,o+j,none⟩=false) (h1:∀ v∈cs,v.oneCell'=true) :
  (Builtin.copy_ #[dT,sT] ty #[.slice (some ⟨b,o,none⟩) dLen dCap,.slice sp sLen sCap]).run P w=.ok (goInt (Nat.min sLen dLen)) (w.setCells b o cs):=by
 have hst:=run_storeCells_cells (P:=P) b o cs 0 w (by simpa using hc) (by simpa using hf) h1
 cases hq:P.info? elem with
 | none=>simp [hq] at hs
 | some i=>
  have hi:i.size=m:=by simpa [hq] using hs
  cases sp with
  | none=>
   have h0:=hnil rfl
   subst h0
   have hcs:cs=[]:=List.eq_nil_of_length_eq_zero (by simpa using hn)
   subst hcs
   simp [Builtin.copy_,run_underlying hu,Builtin.lenOf,Builtin.firstCells,sizeOf,typeInfo,hq,storeCells,World.setCells]
  | some a=>
   have hl:=run_loadCells_list (P:=P) w a cs (hsrc a rfl)
   simp [Builtin.copy_,run_underlying hu,Builtin.lenOf,Builtin.firstCells,sizeOf,typeInfo,hq,hi,← hn,hl,hst]
end Go.Proofs.YtmmdlgjmplddiaaGreat
