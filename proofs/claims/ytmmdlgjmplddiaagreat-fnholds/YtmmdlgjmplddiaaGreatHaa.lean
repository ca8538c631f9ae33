/-
  OUR OWN TEXT. Plain, Own, Mem, Val, Rd0, Gm, Ty, RdG, Copy, Blk, App, Ll, Og, Mo0, Sym, Sp10, Rn1, one behind the other.
-/
import Derived.WalkKit
import Derived.WalkSpells
import Derived.WalkLawsBesides
import Derived.Laws.IdiomCopy
import Derived.Test.YtmmdlgjmplddiaaGreatRows
import Derived.Deep.Slices
import Derived.Deep.Strs
import Derived.Lib.SmallJoins
import Derived.Deep.MidRow
import Derived.Laws.CopyOwn
import Derived.Deep.RegionLaw
import Derived.Maps.AppendAt
import Derived.Laws.OwnMore
import Derived.Deep.RegionHeld3
import Derived.Deep.DrawnRows
namespace Go.Proofs.YtmmdlgjmplddiaaGreat
def isL (c:Int):Bool:=decide (97≤c) && decide (c≤122)
def isD (c:Int):Bool:=decide (48≤c) && decide (c≤57)
def isC (c:Int):Bool:=isL c || isD c || decide (c=45)
def znp (c:UInt8):Bool:=isL (c.toNat:Int)
def zdT (c:UInt8):Bool:=isC (c.toNat:Int)
def gSym (s:List UInt8):Bool:=decide (1≤s.length) && decide (s.length≤20) && znp (s.headD 0) && s.all zdT
theorem zjZ {c:Int} (h:isL c=true):isC c=true:=by simp [isC,h]
theorem zdv {s:List UInt8} (h:s.length=0):gSym s=false:=by simp [gSym,h]
theorem zg3 {s:List UInt8} (h:20<s.length):gSym s=false:=by
 have:decide (s.length≤20)=false:=by simpa using h
 simp [gSym,this]
theorem zhn {s:List UInt8} (h:znp (s.headD 0)=false):gSym s=false:=by simp only [gSym,h,Bool.and_false,Bool.false_and]
theorem zl6 {s:List UInt8}{k:Nat} (hk:k<s.length) (h:zdT s[k]=false):gSym s=false:=by
 have:s.all zdT=false:=by
  rw [List.all_eq_false]
  exact ⟨s[k],List.getElem_mem hk,by simp [h]⟩
 simp [gSym,this]
theorem zlo {s:List UInt8} (h1:1≤s.length) (h2:s.length≤20) (h3:znp (s.headD 0)=true) (h4:s.all zdT=true):gSym s=true:=by
 simp only [gSym,h3,h4,Bool.and_true,Bool.and_eq_true,decide_eq_true_eq]
 exact ⟨h1,h2⟩
theorem zgq {s:List UInt8}{k:Nat} (hk:k<s.length) (h:(s.take k).all zdT=true) (hc:zdT s[k]=true):(s.take (k+1)).all zdT=true:=by
 rw [List.take_succ_eq_append_getElem hk,List.all_append,h]
 simp [hc]
end Go.Proofs.YtmmdlgjmplddiaaGreat
namespace Go.Proofs.YtmmdlgjmplddiaaGreat
open Go.RowKit
theorem zbV {α:Type} (l:List α) (k:Nat) (x:α) (h:l[k]?=some x):l.take (k+1)=l.take k ++ [x]:=by
 obtain ⟨hk,rfl⟩:=List.getElem?_eq_some_iff.1 h
 exact List.take_succ_eq_append_getElem hk
theorem zan {α:Type}{l:List α}{k:Nat}{x:α} (h:l[k]?=some x):l.drop k=x :: l.drop (k+1):=by
 obtain ⟨hk,rfl⟩:=List.getElem?_eq_some_iff.1 h
 exact List.drop_eq_getElem_cons hk
theorem zab {w:World}{g:Nat}{o:Obj} (h:w.heap[g]?=some o):g<w.heap.size:=(Array.getElem?_eq_some_iff.1 h).1
theorem zad {w:World}{g i:Nat}{c:Array Value}{t:TypeId}{fr:Nat × Nat} (h:w.heap[g]?=some (.cells c t fr)) (x:Value) :
  (w.setCell ⟨g,i,none⟩ x).heap[g]?=some (.cells (c.setIfInBounds i x) t fr):=by
 simp [World.setCell,Array.getElem?_modify,h]
theorem zb0:∀ (vs:List Value) (o:Nat) (w:World) (g:Nat) (c:Array Value) (t:TypeId) (fr:Nat × Nat),w.heap[g]?=some (.cells c t fr) →
  ∃ c',(w.setCells g o vs).heap[g]?=some (.cells c' t fr)∧c'.size=c.size∧(∀ j x,vs[j]?=some x→o+j<c.size→c'[o+j]?=some x)∧(∀ i,i<o∨o+vs.length≤i→c'[i]?=c[i]?)
 | [],o,w,g,c,t,fr,h=>⟨c,h,rfl,fun j x hj=>by simp at hj,fun _ _=>rfl⟩
 | v :: r,o,w,g,c,t,fr,h=>by
  obtain ⟨c',h1,h2,h3,h4⟩:=zb0 r (o+1) _ g _ t fr (zad (i:=o) h v)
  refine ⟨c',h1,by rw [h2];simp,?_,?_⟩
  ·intro j x hj hlt
   cases j with
   | zero=>
    simp at hj
    subst hj
    rw [Nat.add_zero,h4 o (Or.inl (Nat.lt_succ_self o)),Array.getElem?_setIfInBounds]
    simp at hlt
    simp [hlt]
   | succ j=>
    have:=h3 j x (by simpa using hj) (by simp;omega)
    rwa [show o+1+j=o+(j+1) by omega] at this
  ·intro i hi
   rw [h4 i (by simp at hi;omega),Array.getElem?_setIfInBounds,if_neg (by simp at hi;omega)]
theorem Below.setCells {B:Nat}{a:World}:∀ (vs:List Value) (o:Nat) (w:World) (g:Nat),Below B a w→B≤g→Below B a (w.setCells g o vs)
 | [],_,_,_,h,_=>h
 | v :: r,o,_,g,h,hg=>Below.setCells r (o+1) _ g (h.setCell (p:=⟨g,o,none⟩) hg v) hg
theorem bcell {W w1:World} (hb:Below W.heap.size W w1):(∀ b o,b<W.heap.size→w1.cell? ⟨b,o,none⟩=W.cell? ⟨b,o,none⟩)∧(∀ b o,b<W.heap.size→w1.frozen? ⟨b,o,none⟩=W.frozen? ⟨b,o,none⟩):=
 ⟨fun b o h=>hb.cell (p:=⟨b,o,none⟩) h,fun b o h=>hb.frozen (p:=⟨b,o,none⟩) h⟩
def OwnB (w:World) (g:Nat) (t:TypeId) (m N:Nat) (rs:List (List Value)):Prop:=
 ∃ c:Array Value,w.heap[g]?=some (.cells c t (0,0))∧c.size=N * m∧rs.length≤N∧∀ i r,rs[i]?=some r→r.length=m∧∀ j x,r[j]?=some x→c[i * m+j]?=some x
theorem OwnB.lt {w:World}{g:Nat}{t:TypeId}{m N:Nat}{rs:List (List Value)} (h:OwnB w g t m N rs):g<w.heap.size:=by
 obtain ⟨c,h1,_⟩:=h
 exact zab h1
theorem OwnB.of_block {w w':World}{g:Nat}{t:TypeId}{m N:Nat}{rs:List (List Value)} (h:OwnB w g t m N rs) (e:w'.heap[g]?=w.heap[g]?):OwnB w' g t m N rs:=by
 obtain ⟨c,h1,h2⟩:=h
 exact ⟨c,e.trans h1,h2⟩
theorem OwnB.below {w w':World}{g B:Nat}{t:TypeId}{m N:Nat}{rs:List (List Value)} (h:OwnB w g t m N rs) (hb:Below B w w') (hg:g<B):OwnB w' g t m N rs:=
 h.of_block (hb.block g hg)
theorem OwnB.cell {w:World}{g:Nat}{t:TypeId}{m N:Nat}{rs:List (List Value)} (h:OwnB w g t m N rs) {i j:Nat}{r:List Value}{x:Value} (hi:rs[i]?=some r) (hj:r[j]?=some x) :
  w.cell? ⟨g,i * m+j,none⟩=some x:=by
 obtain ⟨c,h1,_,_,h3⟩:=h
 simp [World.cell?,h1,(h3 i r hi).2 j x hj]
theorem OwnB.there {w:World}{g:Nat}{t:TypeId}{m N:Nat}{rs:List (List Value)} (h:OwnB w g t m N rs) {i j:Nat} (hi:i<N) (hj:j<m):∃ x,w.cell? ⟨g,i * m+j,none⟩=some x:=by
 obtain ⟨c,h1,h2,_,_⟩:=h
 have hlt:i * m+j<c.size:=by
  rw [h2]
  have:(i+1) * m≤N * m:=Nat.mul_le_mul_right m hi
  rw [Nat.succ_mul] at this
  omega
 exact ⟨c[i * m+j],by simp [World.cell?,h1,hlt]⟩
theorem OwnB.put {w:World}{g:Nat}{t:TypeId}{m N:Nat}{rs:List (List Value)} (h:OwnB w g t m N rs) (r:List Value) (hr:r.length=m) (hN:rs.length<N):OwnB (w.setCells g (rs.length * m) r) g t m N (rs ++ [r]):=by
 obtain ⟨c,h1,h2,h3,h4⟩:=h
 obtain ⟨c',k1,k2,k3,k4⟩:=zb0 r (rs.length * m) w g c t (0,0) h1
 refine ⟨c',k1,by rw [k2,h2],by simp;omega,?_⟩
 intro i q hi
 by_cases hlt:i<rs.length
 ·rw [List.getElem?_append_left hlt] at hi
  obtain ⟨hq,hc⟩:=h4 i q hi
  refine ⟨hq,fun j x hj=>?_⟩
  have hjm:j<q.length:=(List.getElem?_eq_some_iff.1 hj).1
  rw [k4 _ (Or.inl ?_)]
  ·exact hc j x hj
  ·have:(i+1) * m≤rs.length * m:=Nat.mul_le_mul_right m hlt
   rw [Nat.succ_mul] at this
   omega
 ·have hil:i<(rs ++ [r]).length:=(List.getElem?_eq_some_iff.1 hi).1
  simp at hil
  obtain rfl:i=rs.length:=by omega
  simp at hi
  subst hi
  refine ⟨hr,fun j x hj=>k3 j x hj ?_⟩
  have hjm:j<r.length:=(List.getElem?_eq_some_iff.1 hj).1
  rw [h2]
  have:(rs.length+1) * m≤N * m:=Nat.mul_le_mul_right m hN
  rw [Nat.succ_mul] at this
  omega
theorem OwnB.made (w:World) (z:Array Value) (t:TypeId) (m N:Nat):OwnB (w.alloc (.cells (madeCells z (N * m)) t)) w.heap.size t m N []:=
 ⟨_,heap_alloc_new _ _,size_madeCells _ _,Nat.zero_le _,fun i r h=>by simp at h⟩
theorem OwnB.alloc {w:World}{g:Nat}{t:TypeId}{m N:Nat}{rs:List (List Value)} (h:OwnB w g t m N rs) (o:Obj):OwnB (w.alloc o) g t m N rs:=
 h.of_block (Below.heap_alloc _ _ _ h.lt)
end Go.Proofs.YtmmdlgjmplddiaaGreat
namespace Go.Proofs.YtmmdlgjmplddiaaGreat
open Go.RowKit
abbrev V:=Int × Int × ByteArray
def V.kind (v:V):Int:=v.1
def V.num (v:V):Int:=v.2.1
def V.sym (v:V):ByteArray:=v.2.2
theorem V.same {v u:V} (h1:v.kind=u.kind) (h2:v.num=u.num) (h3:v.sym=u.sym):v=u:=Prod.ext h1 (Prod.ext h2 h3)
structure F where
 tag:Int
 cls:ByteArray
 slots:List V
def zaY (w:World) (a:Option Addr) (vs:List V):Prop:=
 ∀ (i:Nat) (v:V),vs[i]?=some v→∃ b o,a=some ⟨b,o,none⟩∧w.cell? ⟨b,o+i * 3,none⟩=some (.int .i64 v.kind) ∧
  w.cell? ⟨b,o+i * 3+1,none⟩=some (.int .i64 v.num)∧w.cell? ⟨b,o+i * 3+2,none⟩=some (.string v.sym)
def zaG (w:World) (a:Option Addr) (fs:List F):Prop:=
 ∀ (i:Nat) (f:F),fs[i]?=some f→∃ b o,a=some ⟨b,o,none⟩∧w.cell? ⟨b,o+i * 3,none⟩=some (.int .i64 f.tag) ∧
  w.cell? ⟨b,o+i * 3+1,none⟩=some (.string f.cls)∧∃ a' c,w.cell? ⟨b,o+i * 3+2,none⟩=some (.slice a' f.slots.length c)∧zaY w a' f.slots
theorem zaa {w w':World}{p:Addr}{x:Value} (hb:Below w.heap.size w w') (h:w.cell? p=some x):w'.cell? p=some x:=by
 rw [hb.cell (p:=p) ?_]
 ·exact h
 ·unfold World.cell? at h
  by_cases hp:p.block<w.heap.size
  ·exact hp
  ·rw [Array.getElem?_eq_none (by omega)] at h
   simp at h
theorem zaY.below {w w':World}{a:Option Addr}{vs:List V} (h:zaY w a vs) (hb:Below w.heap.size w w'):zaY w' a vs:=by
 intro i v hv
 obtain ⟨b,o,rfl,h1,h2,h3⟩:=h i v hv
 exact ⟨b,o,rfl,zaa hb h1,zaa hb h2,zaa hb h3⟩
theorem zaG.below {w w':World}{a:Option Addr}{fs:List F} (h:zaG w a fs) (hb:Below w.heap.size w w'):zaG w' a fs:=by
 intro i f hf
 obtain ⟨b,o,rfl,h1,h2,a',c,h3,h4⟩:=h i f hf
 exact ⟨b,o,rfl,zaa hb h1,zaa hb h2,a',c,zaa hb h3,h4.below hb⟩
def V.cells (v:V):List Value:=[.int .i64 v.kind,.int .i64 v.num,.string v.sym]
def fcells (f:F) (x:Value):List Value:=[.int .i64 f.tag,.string f.cls,x]
theorem zaY.own {w:World}{g:Nat}{t:TypeId}{N:Nat}{vs:List V} (h:OwnB w g t 3 N (vs.map V.cells)):zaY w (some ⟨g,0,none⟩) vs:=by
 intro i v hv
 have hi:(vs.map V.cells)[i]?=some v.cells:=by simp [hv]
 refine ⟨g,0,rfl,?_,?_,?_⟩
 ·simpa using h.cell hi (j:=0) rfl
 ·simpa using h.cell hi (j:=1) rfl
 ·simpa using h.cell hi (j:=2) rfl
theorem zaX {k:IntKind}{a b:Int} (h:a=b):Ending.returned (.int k a)=.returned (.int k b):=by rw [h]
end Go.Proofs.YtmmdlgjmplddiaaGreat
namespace Go.Proofs.YtmmdlgjmplddiaaGreat
def gVal (v:V):Bool:=(v.kind==0 && v.sym.toList.isEmpty) || (v.kind==1 && (v.num==0 && gSym v.sym.data.toList))
def zbp (vs:List V):Bool:=decide (vs.length≤6) && vs.all gVal
def okF (last:Int) (f:F):Bool:=decide (last<f.tag) && (decide (f.tag≤1000000) && (gSym f.cls.data.toList && zbp f.slots))
def zbm (last:Int):List F→Bool
 | []=>true
 | f :: r=>okF last f && zbm f.tag r
def zaS (fs:List F):Bool:=decide (fs.length≤40) && zbm 0 fs
def zcp (sg:Bool) (f g:F):Bool:=!(sg && (decide (g.cls=f.cls) && decide (f.slots=g.slots)))
def pre1 (sg:Bool) (f:F) (pre:List F):Bool:=pre.all (zcp sg f)
def pairs (sg:Bool) (nx:Int):List F→List F→Bool
 | _,[]=>true
 | pre,f :: r=>decide (f.tag<nx) && (pre1 sg f pre && pairs sg nx (pre ++ [f]) r)
def zeE (fs:List F) (nx cp:Int):Bool:=decide (0≤cp) && (decide (cp≤40) && (decide ((fs.length:Int)≤cp) && (zaS fs && (decide (1≤nx) && decide (nx≤1000001)))))
def zbw (fs:List F) (nx cp:Int) (sg:Bool):Bool:=zeE fs nx cp && pairs sg nx [] fs
abbrev Lk:=ByteArray × List V
def like (f:F):Lk:=(f.cls,f.slots)
theorem zlC {f g:F}:like f=like g ↔ f.cls=g.cls∧f.slots=g.slots:=Prod.mk.injEq _ _ _ _ ▸ Iff.rfl
theorem zhW (sg:Bool) (nx:Int):∀ (fs pre:List F),pairs sg nx pre fs=(fs.all (fun f=>decide (f.tag<nx)) && pairs sg (nx) pre fs)
 | [],_=>by simp [pairs]
 | f :: r,pre=>by
  simp only [pairs,List.all_cons]
  rw [zhW sg nx r (pre ++ [f])]
  cases decide (f.tag<nx) <;> cases pre1 sg f pre <;> cases r.all (fun f=>decide (f.tag<nx)) <;> cases pairs sg nx (pre ++ [f]) r <;> rfl
theorem zfh (nx:Int):∀ (fs pre:List F),pairs false nx pre fs=fs.all (fun f=>decide (f.tag<nx))
 | [],_=>by simp [pairs]
 | f :: r,pre=>by
  simp only [pairs,List.all_cons]
  rw [zfh nx r (pre ++ [f])]
  have:pre1 false f pre=true:=by simp [pre1,zcp]
  simp [this]
theorem zhw (f:F) (pre:List F):pre1 true f pre=true ↔ like f ∉ pre.map like:=by
 unfold pre1
 rw [List.all_eq_true]
 constructor
 ·intro h hm
  obtain ⟨g,hg,he⟩:=List.mem_map.1 hm
  have:=h g hg
  rw [zlC] at he
  simp [zcp,he.1,he.2] at this
 ·intro h g hg
  simp only [zcp,Bool.true_and,Bool.not_eq_true',Bool.and_eq_false_iff,decide_eq_false_iff_not]
  by_cases h1:g.cls=f.cls
  ·right
   intro h2
   exact h (List.mem_map.2 ⟨g,hg,zlC.2 ⟨h1,h2.symm⟩⟩)
  ·left
   exact h1
theorem zf9 (nx:Int):∀ (fs pre:List F),(pre.map like).Nodup→pairs true nx pre fs=(fs.all (fun f=>decide (f.tag<nx)) && decide (((pre ++ fs).map like).Nodup))
 | [],pre,h=>by simp [pairs,h]
 | f :: r,pre,h=>by
  simp only [pairs,List.all_cons]
  by_cases hm:like f∈pre.map like
  ·have:¬ ((pre ++ f :: r).map like).Nodup:=by
    rw [List.map_append,List.nodup_append]
    rintro ⟨_,_,h3⟩
    exact h3 (like f) hm (like f) (by simp) rfl
   have hp:pre1 true f pre=false:=by
    cases hq:pre1 true f pre
    ·rfl
    ·exact absurd hm ((zhw f pre).1 hq)
   rw [decide_eq_false this,hp]
   simp
  ·have h':((pre ++ [f]).map like).Nodup:=by
    rw [List.map_append,List.nodup_append]
    refine ⟨h,by simp,?_⟩
    intro a ha b hb
    simp at hb
    subst hb
    intro e
    exact hm (e ▸ ha)
   rw [zf9 nx r (pre ++ [f]) h',(zhw f pre).2 hm,Bool.true_and,List.append_assoc,Bool.and_assoc]
   rfl
end Go.Proofs.YtmmdlgjmplddiaaGreat
namespace Go.Proofs.YtmmdlgjmplddiaaGreat
open Go.RowKit Go.Deep
theorem zkn:laidOutB Tryz.prog=true:=by kernel_rfl
theorem ownK:ownKnob Tryz.prog.godebug=none:=by kernel_rfl
theorem zkw:Tryz.prog.cellsOf 3=1:=by kernel_rfl
theorem zmb:Tryz.prog.cellsOf 2=1:=by kernel_rfl
theorem zmH:Tryz.prog.cellsOf 9=1:=by kernel_rfl
def VOk (v:V):Prop:=(Lit.int .i64 v.kind).wf=true∧(Lit.int .i64 v.num).wf=true∧v.sym.size≤maxLen
theorem zhD {α:Type}{f:Nat→α}{len i:Nat}{x:α} (h:((List.range len).map f)[i]?=some x):i<len∧f i=x:=by
 have hi:i<len:=by simpa using (List.getElem?_eq_some_iff.1 h).1
 simp [hi] at h
 exact ⟨hi,h⟩
theorem zkS {w:World}{b o:Nat}{sp:Option Nat}{n:Nat}{x y:Value} (h0:w.cell? ((⟨b,o,sp⟩:Addr).add 0)=some x) (_h:w.cell? ((⟨b,o,sp⟩:Addr).add n)=some y):sp=none:=by
 have h1:=World.cell?_spot h0
 simpa [Addr.add] using h1
section
variable {H : Type} {enc : TypeId × Value → H} {w : World} {base : Nat} {spare : Nat → Bool} {held : Bool}
end
end Go.Proofs.YtmmdlgjmplddiaaGreat
namespace Go.Proofs.YtmmdlgjmplddiaaGreat
open Go.RowKit
def Qb (q:Option Nat) (w:World) (t:TypeId) (b:Nat):Prop:=∀ B,q=some B→B≤b∧∃ c,w.heap[b]?=some (.cells c t (0,0))
def Low (B:Nat) (w w':World):Prop:=∀ b,B≤b→w'.heap[b]?=w.heap[b]?
theorem Low.refl (B:Nat) (w:World):Low B w w:=fun _ _=>rfl
theorem Low.trans {B:Nat}{w w' w'':World} (h:Low B w w') (h':Low B w' w''):Low B w w'':=fun b hb=>(h' b hb).trans (h b hb)
theorem Low.setCell {B g i:Nat}{w:World} (hg:g<B) (x:Value):Low B w (w.setCell ⟨g,i,none⟩ x):=fun b hb=>Below.heap_setCell _ _ _ _ (by simp;omega)
theorem Low.setCells {B g:Nat} (hg:g<B):∀ (vs:List Value) (o:Nat) (w:World),Low B w (w.setCells g o vs)
 | [],_,_=>Low.refl _ _
 | v :: r,o,_=>(Low.setCell hg v).trans (Low.setCells hg r (o+1) _)
theorem Qb.bare (w:World) (t:TypeId) (b:Nat):Qb none w t b:=fun B h=>by cases h
theorem Qb.low {B:Nat}{w w':World}{t:TypeId}{b:Nat} (h:Qb (some B) w t b) (hs:Low B w w'):Qb (some B) w' t b:=by
 intro B' e
 obtain ⟨h1,c,h2⟩:=h B' e
 injection e with e
 subst e
 exact ⟨h1,c,(hs b h1).trans h2⟩
theorem Qb.below {q:Option Nat}{w w':World}{t:TypeId}{b:Nat} (h:Qb q w t b) (hb:Below w.heap.size w w'):Qb q w' t b:=by
 cases q with
 | none=>exact Qb.bare _ _ _
 | some B=>
  intro B' e
  obtain ⟨h1,c,h2⟩:=h B' e
  exact ⟨h1,c,(hb.block b (zab h2)).trans h2⟩
section
variable {α : Type}
def zaJ (R:World→List Value→α→Prop) (q:Option Nat) (t:TypeId) (m:Nat) (w:World) (a:Option Addr) (xs:List α):Prop:=
 ∀ (i:Nat) (x:α),xs[i]?=some x→∃ b o r,a=some ⟨b,o,none⟩∧Qb q w t b∧r.length=m∧(∀ j v,r[j]?=some v→w.cell? ⟨b,o+i * m+j,none⟩=some v)∧R w r x
variable {R R' : World → List Value → α → Prop} {q q' : Option Nat} {t : TypeId} {m : Nat} {w w' : World} {a : Option Addr} {xs : List α}
theorem zaJ.nil:zaJ R q t m w a ([]:List α):=fun i x h=>by simp at h
theorem zaJ.below (h:zaJ R q t m w a xs) (hR:∀ r x,x∈xs→R w r x→R w' r x) (hb:Below w.heap.size w w'):zaJ R q t m w' a xs:=by
 intro i x hx
 obtain ⟨b,o,r,h1,h2,h3,h4,h5⟩:=h i x hx
 exact ⟨b,o,r,h1,h2.below hb,h3,fun j v hj=>zaa hb (h4 j v hj),hR r x (List.mem_of_getElem? hx) h5⟩
theorem zaJ.low {B:Nat} (h:zaJ R (some B) t m w a xs) (hR:∀ r x,x∈xs→R w r x→R w' r x) (hs:Low B w w'):zaJ R (some B) t m w' a xs:=by
 intro i x hx
 obtain ⟨b,o,r,h1,h2,h3,h4,h5⟩:=h i x hx
 refine ⟨b,o,r,h1,h2.low hs,h3,fun j v hj=>?_,hR r x (List.mem_of_getElem? hx) h5⟩
 obtain ⟨hb,_⟩:=h2 B rfl
 have:=h4 j v hj
 unfold World.cell? at this ⊢
 rw [hs b hb]
 exact this
theorem zaJ.weak (h:zaJ R q t m w a xs) (hq:∀ b,Qb q w t b→Qb q' w t b) (hR:∀ r x,x∈xs→R w r x→R' w r x):zaJ R' q' t m w a xs:=by
 intro i x hx
 obtain ⟨b,o,r,h1,h2,h3,h4,h5⟩:=h i x hx
 exact ⟨b,o,r,h1,hq b h2,h3,h4,hR r x (List.mem_of_getElem? hx) h5⟩
theorem zaJ.take (h:zaJ R q t m w a xs) (k:Nat):zaJ R q t m w a (xs.take k):=by
 intro i x hx
 rw [List.getElem?_take] at hx
 split at hx
 ·exact h i x hx
 ·cases hx
def zcn (R:World→List Value→α→Prop) (t:TypeId) (m:Nat) (w:World) (g N:Nat) (xs:List α):Prop:=
 ∃ rows,OwnB w g t m N rows∧rows.length=xs.length∧∀ (i:Nat) (x:α) (r:List Value),xs[i]?=some x→rows[i]?=some r→R w r x
theorem zcn.lt {g N:Nat} (h:zcn R t m w g N xs):g<w.heap.size:=by
 obtain ⟨_,h,_⟩:=h
 exact h.lt
theorem zcn.at {g N B:Nat} (h:zcn R t m w g N xs) (hB:B≤g):zaJ R (some B) t m w (some ⟨g,0,none⟩) xs:=by
 obtain ⟨rows,ho,hl,hR⟩:=h
 intro i x hx
 have hi:i<rows.length:=by rw [hl];exact (List.getElem?_eq_some_iff.1 hx).1
 have hr:rows[i]?=some rows[i]:=List.getElem?_eq_getElem hi
 obtain ⟨c,h1,h2,h3,h4⟩:=ho
 refine ⟨g,0,rows[i],rfl,?_,(h4 i _ hr).1,?_,hR i x _ hx hr⟩
 ·intro B' e
  injection e with e
  subst e
  exact ⟨hB,c,h1⟩
 ·intro j v hj
  rw [Nat.zero_add]
  exact OwnB.cell ⟨c,h1,h2,h3,h4⟩ hr hj
theorem zcn.below {g N:Nat} (h:zcn R t m w g N xs) (hR:∀ r x,x∈xs→R w r x→R w' r x) (hb:Below w.heap.size w w'):zcn R t m w' g N xs:=by
 obtain ⟨rows,ho,hl,h⟩:=h
 exact ⟨rows,ho.below hb ho.lt,hl,fun i x r hx hr=>hR r x (List.mem_of_getElem? hx) (h i x r hx hr)⟩
theorem zcn.room {g N k:Nat} (h:zcn R t m w g N xs) (hk:k<N) (j:Nat) (hj:j<m):∃ x,w.cell? ⟨g,k * m+j,none⟩=some x:=by
 obtain ⟨rows,ho,_⟩:=h
 exact ho.there hk hj
theorem zcn.put {g N k:Nat}{x:α}{r:List Value} (h:zcn R t m w g N xs) (hk:xs.length=k) (hN:k<N) (hr:r.length=m) (hx:R w r x)
  (hR:∀ s y,(y∈xs∨y=x)→R w s y→R (w.setCells g (k * m) r) s y):zcn R t m (w.setCells g (k * m) r) g N (xs ++ [x]):=by
 obtain ⟨rows,ho,hl,h⟩:=h
 refine ⟨rows ++ [r],?_,by simp [hl],?_⟩
 ·have:=ho.put r hr (by omega)
  rwa [show rows.length=k by omega] at this
 ·intro i y s hy hs
  by_cases hi:i<xs.length
  ·rw [List.getElem?_append_left hi] at hy
   rw [List.getElem?_append_left (by omega)] at hs
   exact hR _ _ (.inl (List.mem_of_getElem? hy)) (h i y s hy hs)
  ·have hil:i<(xs ++ [x]).length:=(List.getElem?_eq_some_iff.1 hy).1
   simp at hil
   obtain rfl:i=xs.length:=by omega
   simp at hy
   rw [List.getElem?_append_right (by omega)] at hs
   simp [hl] at hs
   subst hy hs
   exact hR _ _ (.inr rfl) hx
end
def zbs {α:Type} (le:Nat→α→Prop) (N:Nat) (xs:List α):Prop:=xs.length≤N∧∀ x∈xs,le N x
end Go.Proofs.YtmmdlgjmplddiaaGreat
namespace Go.Proofs.YtmmdlgjmplddiaaGreat
open Go.RowKit
def intR (_:World) (r:List Value) (x:Int):Prop:=r=[.int .i64 x]
abbrev zaU (q:Option Nat) (w:World) (a:Option Addr) (xs:List Int):Prop:=zaJ intR q 3 1 w a xs
theorem zaU.below {q:Option Nat}{w w':World}{a:Option Addr}{xs:List Int} (h:zaU q w a xs) (hb:Below w.heap.size w w'):zaU q w' a xs:=zaJ.below h (fun _ _ _ h=>h) hb
theorem zaU.low {B:Nat}{w w':World}{a:Option Addr}{xs:List Int} (h:zaU (some B) w a xs) (hb:Low B w w'):zaU (some B) w' a xs:=zaJ.low h (fun _ _ _ h=>h) hb
theorem zaU.bare {q:Option Nat}{w:World}{a:Option Addr}{xs:List Int} (h:zaU q w a xs):zaU none w a xs:=zaJ.weak h (fun b _=>Qb.bare _ _ b) (fun _ _ _ h=>h)
theorem zaU.get {q:Option Nat}{w:World}{a:Option Addr}{xs:List Int}{i:Nat}{x:Int} (h:zaU q w a xs) (hi:xs[i]?=some x):∃ b o,a=some ⟨b,o,none⟩∧Qb q w 3 b∧w.cell? ⟨b,o+i,none⟩=some (.int .i64 x):=by
 obtain ⟨b,o,r,h1,h2,h3,h4,h5⟩:=h i x hi
 subst h5
 exact ⟨b,o,h1,h2,by simpa using h4 0 _ rfl⟩
structure Tm where
 kind:Int
 op:Int
 var:ByteArray
 val:V
def Tm.R (_:World) (r:List Value) (x:Tm):Prop:=r=[.int .i64 x.kind,.int .i64 x.op,.string x.var,.int .i64 x.val.kind,.int .i64 x.val.num,.string x.val.sym]
abbrev zch (q:Option Nat) (w:World) (a:Option Addr) (xs:List Tm):Prop:=zaJ Tm.R q 115 6 w a xs
theorem zch.below {q:Option Nat}{w w':World}{a:Option Addr}{xs:List Tm} (h:zch q w a xs) (hb:Below w.heap.size w w'):zch q w' a xs:=zaJ.below h (fun _ _ _ h=>h) hb
theorem zch.low {B:Nat}{w w':World}{a:Option Addr}{xs:List Tm} (h:zch (some B) w a xs) (hb:Low B w w'):zch (some B) w' a xs:=zaJ.low h (fun _ _ _ h=>h) hb
theorem zch.bare {q:Option Nat}{w:World}{a:Option Addr}{xs:List Tm} (h:zch q w a xs):zch none w a xs:=zaJ.weak h (fun b _=>Qb.bare _ _ b) (fun _ _ _ h=>h)
theorem zch.get {q:Option Nat}{w:World}{a:Option Addr}{xs:List Tm}{i:Nat}{x:Tm} (h:zch q w a xs) (hi:xs[i]?=some x):∃ b o,a=some ⟨b,o,none⟩∧Qb q w 115 b∧w.cell? ⟨b,o+i * 6,none⟩=some (.int .i64 x.kind)∧w.cell? ⟨b,o+i * 6+1,none⟩=some (.int .i64 x.op)∧w.cell? ⟨b,o+i * 6+2,none⟩=some (.string x.var)∧w.cell? ⟨b,o+i * 6+3,none⟩=some (.int .i64 x.val.kind)∧w.cell? ⟨b,o+i * 6+4,none⟩=some (.int .i64 x.val.num)∧w.cell? ⟨b,o+i * 6+5,none⟩=some (.string x.val.sym):=by
 obtain ⟨b,o,r,h1,h2,h3,h4,h5⟩:=h i x hi
 subst h5
 exact ⟨b,o,h1,h2,h4 0 _ rfl,h4 1 _ rfl,h4 2 _ rfl,h4 3 _ rfl,h4 4 _ rfl,h4 5 _ rfl⟩
def Tm.le (N:Nat) (x:Tm):Prop:=x.var.size≤N∧x.val.sym.size≤N
structure Pt where
 neg:Bool
 cls:ByteArray
 terms:List Tm
def Pt.R (q:Option Nat) (w:World) (r:List Value) (x:Pt):Prop:=∃ a_terms c_terms,r=[.bool x.neg,.string x.cls,.slice a_terms x.terms.length c_terms]∧zch q w a_terms x.terms∧x.terms.length≤c_terms
abbrev zbY (q:Option Nat) (w:World) (a:Option Addr) (xs:List Pt):Prop:=zaJ (Pt.R q) q 38 3 w a xs
theorem zbY.below {q:Option Nat}{w w':World}{a:Option Addr}{xs:List Pt} (h:zbY q w a xs) (hb:Below w.heap.size w w'):zbY q w' a xs:=zaJ.below h (fun _ _ _ ⟨a_terms,c_terms,e,h_terms,cp⟩=>⟨a_terms,c_terms,e,h_terms.below hb,cp⟩) hb
theorem zbY.low {B:Nat}{w w':World}{a:Option Addr}{xs:List Pt} (h:zbY (some B) w a xs) (hb:Low B w w'):zbY (some B) w' a xs:=zaJ.low h (fun _ _ _ ⟨a_terms,c_terms,e,h_terms,cp⟩=>⟨a_terms,c_terms,e,h_terms.low hb,cp⟩) hb
theorem zbY.bare {q:Option Nat}{w:World}{a:Option Addr}{xs:List Pt} (h:zbY q w a xs):zbY none w a xs:=zaJ.weak h (fun b _=>Qb.bare _ _ b) (fun _ _ _ ⟨a_terms,c_terms,e,h_terms,cp⟩=>⟨a_terms,c_terms,e,h_terms.bare,cp⟩)
theorem zbY.get {q:Option Nat}{w:World}{a:Option Addr}{xs:List Pt}{i:Nat}{x:Pt} (h:zbY q w a xs) (hi:xs[i]?=some x):∃ b o a_terms c_terms,a=some ⟨b,o,none⟩∧Qb q w 38 b∧w.cell? ⟨b,o+i * 3,none⟩=some (.bool x.neg)∧w.cell? ⟨b,o+i * 3+1,none⟩=some (.string x.cls)∧w.cell? ⟨b,o+i * 3+2,none⟩=some (.slice a_terms x.terms.length c_terms)∧zch q w a_terms x.terms:=by
 obtain ⟨b,o,r,h1,h2,h3,h4,h5⟩:=h i x hi
 obtain ⟨a_terms,c_terms,rfl,h_terms,_⟩:=h5
 exact ⟨b,o,a_terms,c_terms,h1,h2,h4 0 _ rfl,h4 1 _ rfl,h4 2 _ rfl,h_terms⟩
theorem zbY.getC {q:Option Nat}{w:World}{a:Option Addr}{xs:List Pt}{i:Nat}{x:Pt} (h:zbY q w a xs) (hi:xs[i]?=some x):∃ b o a_terms c_terms,a=some ⟨b,o,none⟩∧Qb q w 38 b∧w.cell? ⟨b,o+i * 3,none⟩=some (.bool x.neg)∧w.cell? ⟨b,o+i * 3+1,none⟩=some (.string x.cls)∧w.cell? ⟨b,o+i * 3+2,none⟩=some (.slice a_terms x.terms.length c_terms)∧zch q w a_terms x.terms∧x.terms.length≤c_terms:=by
 obtain ⟨b,o,r,h1,h2,h3,h4,h5⟩:=h i x hi
 obtain ⟨a_terms,c_terms,rfl,h_terms,cp⟩:=h5
 exact ⟨b,o,a_terms,c_terms,h1,h2,h4 0 _ rfl,h4 1 _ rfl,h4 2 _ rfl,h_terms,cp⟩
def Pt.le (N:Nat) (x:Pt):Prop:=x.cls.size≤N∧zbs Tm.le N x.terms
structure Ex where
 kind:Int
 op:Int
 var:ByteArray
 val:V
 a:Int
 b:Int
def Ex.R (_:World) (r:List Value) (x:Ex):Prop:=r=[.int .i64 x.kind,.int .u8 x.op,.string x.var,.int .i64 x.val.kind,.int .i64 x.val.num,.string x.val.sym,.int .i64 x.a,.int .i64 x.b]
abbrev za8 (q:Option Nat) (w:World) (a:Option Addr) (xs:List Ex):Prop:=zaJ Ex.R q 240 8 w a xs
theorem za8.below {q:Option Nat}{w w':World}{a:Option Addr}{xs:List Ex} (h:za8 q w a xs) (hb:Below w.heap.size w w'):za8 q w' a xs:=zaJ.below h (fun _ _ _ h=>h) hb
theorem za8.low {B:Nat}{w w':World}{a:Option Addr}{xs:List Ex} (h:za8 (some B) w a xs) (hb:Low B w w'):za8 (some B) w' a xs:=zaJ.low h (fun _ _ _ h=>h) hb
theorem za8.bare {q:Option Nat}{w:World}{a:Option Addr}{xs:List Ex} (h:za8 q w a xs):za8 none w a xs:=zaJ.weak h (fun b _=>Qb.bare _ _ b) (fun _ _ _ h=>h)
theorem za8.get {q:Option Nat}{w:World}{a:Option Addr}{xs:List Ex}{i:Nat}{x:Ex} (h:za8 q w a xs) (hi:xs[i]?=some x):∃ b o,a=some ⟨b,o,none⟩∧Qb q w 240 b∧w.cell? ⟨b,o+i * 8,none⟩=some (.int .i64 x.kind)∧w.cell? ⟨b,o+i * 8+1,none⟩=some (.int .u8 x.op)∧w.cell? ⟨b,o+i * 8+2,none⟩=some (.string x.var)∧w.cell? ⟨b,o+i * 8+3,none⟩=some (.int .i64 x.val.kind)∧w.cell? ⟨b,o+i * 8+4,none⟩=some (.int .i64 x.val.num)∧w.cell? ⟨b,o+i * 8+5,none⟩=some (.string x.val.sym)∧w.cell? ⟨b,o+i * 8+6,none⟩=some (.int .i64 x.a)∧w.cell? ⟨b,o+i * 8+7,none⟩=some (.int .i64 x.b):=by
 obtain ⟨b,o,r,h1,h2,h3,h4,h5⟩:=h i x hi
 subst h5
 exact ⟨b,o,h1,h2,h4 0 _ rfl,h4 1 _ rfl,h4 2 _ rfl,h4 3 _ rfl,h4 4 _ rfl,h4 5 _ rfl,h4 6 _ rfl,h4 7 _ rfl⟩
def Ex.le (N:Nat) (x:Ex):Prop:=x.var.size≤N∧x.val.sym.size≤N
structure Ac where
 kind:Int
 k:Int
 cls:ByteArray
 args:List Int
def Ac.R (q:Option Nat) (w:World) (r:List Value) (x:Ac):Prop:=∃ a_args c_args,r=[.int .i64 x.kind,.int .i64 x.k,.string x.cls,.slice a_args x.args.length c_args]∧zaU q w a_args x.args
abbrev zcu (q:Option Nat) (w:World) (a:Option Addr) (xs:List Ac):Prop:=zaJ (Ac.R q) q 200 4 w a xs
theorem zcu.below {q:Option Nat}{w w':World}{a:Option Addr}{xs:List Ac} (h:zcu q w a xs) (hb:Below w.heap.size w w'):zcu q w' a xs:=zaJ.below h (fun _ _ _ ⟨a_args,c_args,e,h_args⟩=>⟨a_args,c_args,e,h_args.below hb⟩) hb
theorem zcu.low {B:Nat}{w w':World}{a:Option Addr}{xs:List Ac} (h:zcu (some B) w a xs) (hb:Low B w w'):zcu (some B) w' a xs:=zaJ.low h (fun _ _ _ ⟨a_args,c_args,e,h_args⟩=>⟨a_args,c_args,e,h_args.low hb⟩) hb
theorem zcu.bare {q:Option Nat}{w:World}{a:Option Addr}{xs:List Ac} (h:zcu q w a xs):zcu none w a xs:=zaJ.weak h (fun b _=>Qb.bare _ _ b) (fun _ _ _ ⟨a_args,c_args,e,h_args⟩=>⟨a_args,c_args,e,h_args.bare⟩)
theorem zcu.get {q:Option Nat}{w:World}{a:Option Addr}{xs:List Ac}{i:Nat}{x:Ac} (h:zcu q w a xs) (hi:xs[i]?=some x):∃ b o a_args c_args,a=some ⟨b,o,none⟩∧Qb q w 200 b∧w.cell? ⟨b,o+i * 4,none⟩=some (.int .i64 x.kind)∧w.cell? ⟨b,o+i * 4+1,none⟩=some (.int .i64 x.k)∧w.cell? ⟨b,o+i * 4+2,none⟩=some (.string x.cls)∧w.cell? ⟨b,o+i * 4+3,none⟩=some (.slice a_args x.args.length c_args)∧zaU q w a_args x.args:=by
 obtain ⟨b,o,r,h1,h2,h3,h4,h5⟩:=h i x hi
 obtain ⟨a_args,c_args,rfl,h_args⟩:=h5
 exact ⟨b,o,a_args,c_args,h1,h2,h4 0 _ rfl,h4 1 _ rfl,h4 2 _ rfl,h4 3 _ rfl,h_args⟩
def Ac.le (N:Nat) (x:Ac):Prop:=x.cls.size≤N∧x.args.length≤N
structure Ru where
 name:ByteArray
 sal:Int
 pats:List Pt
 exprs:List Ex
 acts:List Ac
def Ru.R (q:Option Nat) (w:World) (r:List Value) (x:Ru):Prop:=∃ a_pats c_pats a_exprs c_exprs a_acts c_acts,r=[.string x.name,.int .i64 x.sal,.slice a_pats x.pats.length c_pats,.slice a_exprs x.exprs.length c_exprs,.slice a_acts x.acts.length c_acts]∧zbY q w a_pats x.pats∧za8 q w a_exprs x.exprs∧zcu q w a_acts x.acts∧x.exprs.length≤c_exprs
abbrev zcy (q:Option Nat) (w:World) (a:Option Addr) (xs:List Ru):Prop:=zaJ (Ru.R q) q 35 5 w a xs
theorem zcy.below {q:Option Nat}{w w':World}{a:Option Addr}{xs:List Ru} (h:zcy q w a xs) (hb:Below w.heap.size w w'):zcy q w' a xs:=zaJ.below h (fun _ _ _ ⟨a_pats,c_pats,a_exprs,c_exprs,a_acts,c_acts,e,h_pats,h_exprs,h_acts,cap_exprs⟩=>⟨a_pats,c_pats,a_exprs,c_exprs,a_acts,c_acts,e,h_pats.below hb,h_exprs.below hb,h_acts.below hb,cap_exprs⟩) hb
theorem zcy.low {B:Nat}{w w':World}{a:Option Addr}{xs:List Ru} (h:zcy (some B) w a xs) (hb:Low B w w'):zcy (some B) w' a xs:=zaJ.low h (fun _ _ _ ⟨a_pats,c_pats,a_exprs,c_exprs,a_acts,c_acts,e,h_pats,h_exprs,h_acts,cap_exprs⟩=>⟨a_pats,c_pats,a_exprs,c_exprs,a_acts,c_acts,e,h_pats.low hb,h_exprs.low hb,h_acts.low hb,cap_exprs⟩) hb
theorem zcy.get {q:Option Nat}{w:World}{a:Option Addr}{xs:List Ru}{i:Nat}{x:Ru} (h:zcy q w a xs) (hi:xs[i]?=some x):∃ b o a_pats c_pats a_exprs c_exprs a_acts c_acts,a=some ⟨b,o,none⟩∧Qb q w 35 b∧w.cell? ⟨b,o+i * 5,none⟩=some (.string x.name)∧w.cell? ⟨b,o+i * 5+1,none⟩=some (.int .i64 x.sal)∧w.cell? ⟨b,o+i * 5+2,none⟩=some (.slice a_pats x.pats.length c_pats)∧w.cell? ⟨b,o+i * 5+3,none⟩=some (.slice a_exprs x.exprs.length c_exprs)∧w.cell? ⟨b,o+i * 5+4,none⟩=some (.slice a_acts x.acts.length c_acts)∧zbY q w a_pats x.pats∧za8 q w a_exprs x.exprs∧zcu q w a_acts x.acts∧x.exprs.length≤c_exprs:=by
 obtain ⟨b,o,r,h1,h2,h3,h4,h5⟩:=h i x hi
 obtain ⟨a_pats,c_pats,a_exprs,c_exprs,a_acts,c_acts,rfl,h_pats,h_exprs,h_acts,cap_exprs⟩:=h5
 exact ⟨b,o,a_pats,c_pats,a_exprs,c_exprs,a_acts,c_acts,h1,h2,h4 0 _ rfl,h4 1 _ rfl,h4 2 _ rfl,h4 3 _ rfl,h4 4 _ rfl,h_pats,h_exprs,h_acts,cap_exprs⟩
def Ru.le (N:Nat) (x:Ru):Prop:=x.name.size≤N∧zbs Pt.le N x.pats∧zbs Ex.le N x.exprs∧zbs Ac.le N x.acts
end Go.Proofs.YtmmdlgjmplddiaaGreat
namespace Go.Proofs.YtmmdlgjmplddiaaGreat
open Go.RowKit Go.Deep
section
variable {H : Type} {enc : TypeId × Value → H} {w : World} {base : Nat} {spare : Nat → Bool} {held : Bool}
theorem zmU {α:Type} (d:α) {R:World→List Value→α→Prop}{Ok:α→Prop} (t e T:TypeId) (m:Nat) (ht:Tryz.prog.underlying t=some (.slice e)) (ce:Tryz.prog.cellsOf e=m) (hm0:0<m)
  (each:∀ (n:Nat) (cs:List Value) (x:DataW H × List MemPlace),DataW.trod enc Tryz.prog w base spare held n e cs=some x→cs.length=m→∃ v:α,R w cs v∧Ok v)
  {n:Nat}{cs:List Value}{x:DataW H × List MemPlace} (h:DataW.trod enc Tryz.prog w base spare held n t cs=some x) :
  ∃ a c,∃ vs:List α,cs=[.slice a vs.length c]∧zaJ R none T m w a vs∧vs.length≤c∧vs.length≤maxLen∧∀ v∈vs,Ok v:=by
 rcases open_slice ht h with ⟨rfl,_⟩ | ⟨a,len,cap,mm,k,D,Pl,rfl,_,hl,hm,hmm,_,hx⟩
 ·exact ⟨none,0,[],rfl,zaJ.nil,Nat.zero_le _,Nat.zero_le _,fun v hv=>by simp at hv⟩
 have hlm:len≤mm:=by rw [hmm];split <;> omega
 have one:∀ i,i<len→∃ v:α,(∃ r,r.length=m∧(∀ j u,r[j]?=some u→w.cell? (a.add (i * m+j))=some u)∧R w r v)∧Ok v:=by
  intro i hi
  obtain ⟨cs',h1,h2⟩:=hx i (by omega)
  rw [ce] at h1
  obtain ⟨_,hlen,hcell⟩:=World.cells?_some h1
  obtain ⟨v,hR,hO⟩:=each _ _ _ h2 hlen
  refine ⟨v,⟨cs',hlen,fun j u hj=>?_,hR⟩,hO⟩
  have hjm:j<m:=by rw [← hlen];exact (List.getElem?_eq_some_iff.1 hj).1
  have:=hcell j hjm
  rw [add_add] at this
  rw [this,hj]
 have:Nonempty (Inhabited α):=⟨⟨d⟩⟩
 obtain ⟨inh⟩:=this
 obtain ⟨f,hf⟩:=choose_lt one
 refine ⟨some a,cap,(List.range len).map f,by simp,?_,by simp;omega,by simp;omega,?_⟩
 ·intro i v hv
  obtain ⟨hji,rfl⟩:=zhD hv
  obtain ⟨⟨r,hr,hc,hR⟩,_⟩:=hf i hji
  obtain ⟨b,o,sp⟩:=a
  obtain ⟨⟨r0,hr0,hc0,_⟩,_⟩:=hf 0 (by omega)
  obtain ⟨u0,hu0⟩:∃ u,r0[0]?=some u:=⟨r0[0]'(by omega),by simp⟩
  obtain ⟨u1,hu1⟩:∃ u,r[0]?=some u:=⟨r[0]'(by omega),by simp⟩
  have hsp:sp=none:=zkS (by simpa using hc0 0 u0 hu0) (hc 0 u1 hu1)
  subst hsp
  refine ⟨b,o,r,rfl,Qb.bare _ _ _,hr,fun j u hj=>?_,hR⟩
  have:=hc j u hj
  rw [Addr.add_mid] at this
  rwa [Nat.add_assoc]
 ·intro v hv
  obtain ⟨i,hi,rfl⟩:=List.mem_map.1 hv
  exact (hf i (List.mem_range.1 hi)).2
end
end Go.Proofs.YtmmdlgjmplddiaaGreat
namespace Go.Proofs.YtmmdlgjmplddiaaGreat
open Go.RowKit
theorem zgK {P:Program} (w:World) (dT sT ty elem:TypeId) (b o dLen dCap:Nat) (sp:Option Addr) (sLen sCap m:Nat) (cs:List Value)
  (hu:P.underlying dT=some (.slice elem)) (hs:(P.info? elem).map (·.size)=some m) (hn:cs.length=Nat.min sLen dLen * m)
  (hnil:sp=none→sLen=0)
  (hsrc:∀ a,sp=some a→∀ j v,cs[j]?=some v→w.cell? (a.add j)=some v) (hc:∀ j,j<cs.length→(w.cell? ⟨b,o+j,none⟩).isSome=true) (hf:∀ j,j<cs.length→w.frozen? ⟨b,o+j,none⟩=false) (h1:∀ v∈cs,v.oneCell'=true) :
  (Builtin.copy_ #[dT,sT] ty #[.slice (some ⟨b,o,none⟩) dLen dCap,.slice sp sLen sCap]).run P w=.ok (goInt (Nat.min sLen dLen)) (w.setCells b o cs):=by
 have hst:=run_storeCells_cells (P:=P) b o cs 0 w (by simpa using hc) (by simpa using hf) h1
 cases hq:P.info? elem with
 | none=>simp [hq] at hs
 | some i=>
  have hi:i.size=m:=by simpa [hq] using hs
  cases sp with
  | none=>
   have h0:=hnil rfl
   subst h0
   have hcs:cs=[]:=List.eq_nil_of_length_eq_zero (by simpa using hn)
   subst hcs
   simp [Builtin.copy_,run_underlying hu,Builtin.lenOf,Builtin.firstCells,sizeOf,typeInfo,hq,storeCells,World.setCells]
  | some a=>
   have hl:=run_loadCells_list (P:=P) w a cs (hsrc a rfl)
   simp [Builtin.copy_,run_underlying hu,Builtin.lenOf,Builtin.firstCells,sizeOf,typeInfo,hq,hi,← hn,hl,hst]
end Go.Proofs.YtmmdlgjmplddiaaGreat
namespace Go.Proofs.YtmmdlgjmplddiaaGreat
open Go.RowKit
structure Turned (w w':World) (b:Nat):Prop where
 os:w'.os=w.os
 tape:w'.tape=w.tape
 output:w'.output=w.output
 size:w'.heap.size=w.heap.size
 block:∀ k,k≠b→w'.heap[k]?=w.heap[k]?
theorem Turned.setCells:∀ (vs:List Value) (o:Nat) (w:World) (b:Nat),Turned w (w.setCells b o vs) b
 | [],_,_,_=>⟨rfl,rfl,rfl,rfl,fun _ _=>rfl⟩
 | v :: r,o,w,b=>by
  have h:=Turned.setCells r (o+1) (w.setCell ⟨b,o,none⟩ v) b
  exact ⟨h.os,h.tape,h.output,h.size.trans (by simp [World.setCell]),fun k hk=>(h.block k hk).trans (Below.heap_setCell _ _ _ _ hk)⟩
theorem Turned.below {w w':World}{b B:Nat} (h:Turned w w' b) (hB:B≤b):Below B w w':=
 ⟨h.os,h.tape,h.output,Nat.le_of_eq h.size.symm,fun k hk=>h.block k (by omega)⟩
theorem Turned.cell {w w':World}{b:Nat} (h:Turned w w' b) {p:Addr} (hp:p.block≠b):w'.cell? p=w.cell? p:=World.cell?_of_block (w:=w) (h.block _ hp)
theorem zbJ {w:World}{g o:Nat}{c:Array Value}{t:TypeId}{fr:Nat × Nat} (h:w.heap[g]?=some (.cells c t fr)) (vs:List Value) (hfit:o+vs.length≤c.size) :
  (w.setCells g o vs).heap[g]?=some (.cells (c.toList.take o ++ (vs ++ c.toList.drop (o+vs.length))).toArray t fr):=by
 obtain ⟨c',h1,h2,h3,h4⟩:=zb0 vs o w g c t fr h
 rw [h1]
 congr 2
 apply Array.ext'
 apply List.ext_getElem?
 intro i
 rw [Array.getElem?_toList]
 by_cases hi:i<o
 ·rw [h4 i (Or.inl hi)]
  simp only [List.getElem?_append,List.length_take,Array.length_toList,List.getElem?_take]
  rw [if_pos (by omega),if_pos hi,Array.getElem?_toList]
 ·by_cases hj:i<o+vs.length
  ·have hx:vs[i - o]?=some (vs[i - o]'(by omega)):=List.getElem?_eq_getElem _
   have:=h3 (i - o) _ hx (by omega)
   rw [show o+(i - o)=i by omega] at this
   rw [this]
   simp only [List.getElem?_append,List.length_take,Array.length_toList]
   rw [if_neg (by omega),if_pos (by omega),show i - min o c.size=i - o by omega,hx]
  ·rw [h4 i (Or.inr (by omega))]
   simp only [List.getElem?_append,List.length_take,Array.length_toList,List.getElem?_drop]
   rw [if_neg (by omega),if_neg (by omega),show o+vs.length+(i - min o c.size - vs.length)=i by omega,Array.getElem?_toList]
theorem zfE {w:World}{b:Nat}{c:Array Value}{t:TypeId} (h:w.heap[b]?=some (.cells c t (0,0))) {o n:Nat} (hn:o+n≤c.size):w.there b o n:=fun j hj=>by
 have hlt:o+j<c.size:=by omega
 simp [World.cell?,World.frozen?,h,hlt]
theorem zdp {w:World}{b:Nat}{c:List Value}{t:TypeId}{fr:Nat × Nat} (h:w.heap[b]?=some (.cells c.toArray t fr)):w.rangeAt b 0 c:=fun j v hv=>by
 simp [World.cell?,h,hv]
theorem zak {P:Program}{ops:Array Oper}{rest:List Oper}{op:Oper}{a:Act}{w:World}{Q:Exit→Act→World→Prop} (hgd:op.guard=none) (ty:TypeId) (x y:Operand) (ho:op.op=.store ty x y)
  (b:Nat) (L:List Value) (hx:a.eval x=.pointer (some ⟨b,0,none⟩)) (hy:a.eval y=.agg L.toArray) (c:Array Value) (t:TypeId) (hb:w.heap[b]?=some (.cells c t (0,0)))
  (hs:c.size=L.length) (hi:(P.info? ty).map (·.size)=some L.length) (h1:∀ v∈L,v.oneCell'=true)
  (h:∀ w',Hid (w'.heap[b]?=some (.cells L.toArray t (0,0)))→Hid (Turned w w' b)→wpList P ops Q rest (a.put op.dst undef) w'):wpList P ops Q (op :: rest) a w:=by
 refine wpList_store_mid hgd ty x y ho b 0 L.toArray hx hy (zfE hb (by simp;omega)) (by simpa using hi) (all_oneCell_toArray h1) (h _ ?_ (Turned.setCells _ _ _ _))
 show _=_
 have:=zbJ hb (o:=0) L (by omega)
 rw [this]
 simp [List.drop_eq_nil_of_le (show c.toList.length≤L.length by simp;omega)]
theorem zdr {P:Program}{ops:Array Oper}{rest:List Oper}{op:Oper}{a:Act}{w:World}{Q:Exit→Act→World→Prop} (hgd:op.guard=none) (ty:TypeId) (x:Operand) (ho:op.op=.load ty x)
  (b:Nat) (L:List Value) (hx:a.eval x=.pointer (some ⟨b,0,none⟩)) (t:TypeId) (fr:Nat × Nat) (hb:w.heap[b]?=some (.cells L.toArray t fr)) (d:TypeDesc)
  (hu:P.underlying ty=some d) (hd:d.isRow=true) (hi:(P.info? ty).map (·.size)=some L.length)
  (h:wpList P ops Q rest (a.put op.dst (.agg L.toArray)) w):wpList P ops Q (op :: rest) a w:=
 wpList_load_mid hgd ty x ho b 0 hx L d (zdp hb) hu hd hi h
theorem zgS {P:Program}{w:World}{ops:Array Oper}{o:Oper}{a:Act}{K:Act→World→Prop}{Q:Exit→Act→World→Prop}{E:Prop} (hgd:o.guard=none) (d s:Operand) (dT sT:TypeId)
  (ho:o.op=.call { callee:=.builtin .copy,args:=#[d,s],argTypes:=#[dT,sT] }) (elem:TypeId) (m:Nat) (hu:P.underlying dT=some (.slice elem)) (hs:(P.info? elem).map (·.size)=some m)
  (b off dLen dCap:Nat) (sp:Option Addr) (sLen sCap:Nat) (hd:a.eval d=.slice (some ⟨b,off,none⟩) dLen dCap) (hsv:a.eval s=.slice sp sLen sCap)
  (c:Array Value) (t:TypeId) (hb:w.heap[b]?=some (.cells c t (0,0))) (cs:List Value) (hn:cs.length=Nat.min sLen dLen * m) (hnil:sp=none→sLen=0)
  (hsrc:∀ a,sp=some a→∀ j v,cs[j]?=some v→w.cell? (a.add j)=some v) (hfit:off+cs.length≤c.size) (h1:∀ v∈cs,v.oneCell'=true)
  (h:∀ w',Hid (w'.heap[b]?=some (.cells (c.toList.take off ++ (cs ++ c.toList.drop (off+cs.length))).toArray t (0,0)))→Hid (Turned w w' b)→K (a.put o.dst (goInt (Nat.min sLen dLen))) w') :
  if Region.wanted o (yielded ops a.tmps)=true then Oper.wp P o a w K Q else E:=by
 have hw:Region.wanted o (yielded ops a.tmps)=true:=by simp [Region.wanted,hgd]
 rw [if_pos hw]
 have ht:=zfE hb hfit
 have hrun:=zgK (P:=P) w dT sT o.type elem b off dLen dCap sp sLen sCap m cs hu hs hn hnil hsrc (fun j hj=>(ht j hj).1) (fun j hj=>(ht j hj).2) h1
 unfold Oper.wp
 simp [execOp,ho,resolve,invoke,builtin,hd,hsv,hrun,Result.andThen]
 exact h _ (zbJ hb cs hfit) (Turned.setCells _ _ _ _)
end Go.Proofs.YtmmdlgjmplddiaaGreat
namespace Go.Proofs.YtmmdlgjmplddiaaGreat
open Go.RowKit
theorem zdF {P:Program}{w:World} (base:Nat) (t ty e:TypeId) (i:TypeInfo) (size:Nat) (ht:P.underlying t=some (.slice e)) (hi:P.info? e=some i)
  (v:Value) (n:Nat) (xs:List Value) (hown:w.ownsRow base e size v n xs) (c:Nat) :
  (Builtin.append_ #[t,t] ty #[v,.slice none 0 c]).run P w=.ok v w:=by
 rcases hown.2 with ⟨rfl,rfl⟩ | ⟨g,cap,cur,rfl,_,_,hnc,_⟩
 ·simp [Builtin.append_,run_underlying ht,sizeOf,typeInfo,hi,Builtin.lenOf,Builtin.firstCells]
 ·simp [Builtin.append_,run_underlying ht,sizeOf,typeInfo,hi,Builtin.lenOf,Builtin.firstCells,hnc,storeCells]
theorem zfK {P:Program} (w:World) (base:Nat) (t ty e:TypeId) (z:Value) (size bytes:Nat) (ht:P.underlying t=some (.slice e)) (hinfo:(P.info? e).map (fun i=>(i.zero,i.size,i.bytes))=some (some z,size,bytes))
  (hzs:z.cells.size=size) (hsz:0<size) (v:Value) (n:Nat) (xs:List Value) (hown:w.ownsRow base e size v n xs)
  (sp:Option Addr) (m c:Nat) (news:List Value) (hl:news.length=m * size) (hnil:sp=none→m=0) (hnews:∀ a,sp=some a→∀ j u,news[j]?=some u→w.cell? (a.add j)=some u) (h1:∀ u∈news,u.oneCell'=true)
  (h63:n+m≤maxLen) (hbytes:(n+m) * bytes≤140737488355328) (hbase:base≤w.heap.size) :
  ∃ a' c' w',(Builtin.append_ #[t,t] ty #[v,.slice sp m c]).run P w=.ok (.slice a' (n+m) c') w'∧w'.ownsRow base e size (.slice a' (n+m) c') (n+m) (xs ++ news)∧w.grownBy w' v.ownBlock ∧
   ((Value.slice a' (n+m) c').ownBlock=v.ownBlock∨(Value.slice a' (n+m) c').ownBlock=some w.heap.size):=by
 obtain ⟨i,hi,hz0,hz1,hz2⟩:=info_parts hinfo
 cases sp with
 | none=>
  obtain rfl:=hnil rfl
  have hr:=zdF (P:=P) (w:=w) base t ty e i size ht hi v n xs hown c
  have hnews0:news=[]:=List.eq_nil_of_length_eq_zero (by simpa using hl)
  subst hnews0
  have hform:∃ a' c',v=.slice a' n c':=by
   rcases hown.2 with ⟨rfl,rfl⟩ | ⟨g,cap,cur,rfl,_⟩
   ·exact ⟨none,0,rfl⟩
   ·exact ⟨_,_,rfl⟩
  obtain ⟨a',c',rfl⟩:=hform
  exact ⟨a',c',w,hr,by simpa using hown,⟨rfl,rfl,rfl,Nat.le_refl _,fun _ _ _=>rfl⟩,.inl rfl⟩
 | some a=>
  obtain ⟨v',w',hr,h2,h3,_,h5⟩:=run_append_own_at (P:=P) w base t ty e i z size bytes ht hi hz0 hz1 hz2 hzs hsz v n xs hown a m c news hl (hnews a rfl) h1 h63 hbytes hbase
  have hform:∃ a' c',v'=.slice a' (n+m) c':=by
   rcases h2.2 with ⟨rfl,h0⟩ | ⟨g,cap,cur,rfl,_⟩
   ·exact ⟨none,0,by rw [h0]⟩
   ·exact ⟨_,_,rfl⟩
  obtain ⟨a',c',rfl⟩:=hform
  exact ⟨a',c',w',hr,h2,h3,h5⟩
theorem zdN {P:Program}{w:World}{o:Oper}{a:Act}{K:Act→World→Prop}{Q:Exit→Act→World→Prop} (s x:Operand) (t:TypeId)
  (ho:o.op=.call { callee:=.builtin .append,args:=#[s,x],argTypes:=#[t,t] })
  (base:Nat) (e:TypeId) (z:Value) (size bytes:Nat) (ht:P.underlying t=some (.slice e)) (hinfo:(P.info? e).map (fun i=>(i.zero,i.size,i.bytes))=some (some z,size,bytes))
  (hzs:z.cells.size=size) (hsz:0<size) (v:Value) (n:Nat) (xs:List Value) (hs:a.eval s=v) (hown:w.ownsRow base e size v n xs)
  (sp:Option Addr) (m c:Nat) (hx:a.eval x=.slice sp m c) (news:List Value) (hl:news.length=m * size) (hnil:sp=none→m=0) (hnews:∀ a,sp=some a→∀ j u,news[j]?=some u→w.cell? (a.add j)=some u) (h1:∀ u∈news,u.oneCell'=true)
  (h63:n+m≤maxLen) (hbytes:(n+m) * bytes≤140737488355328) (hbase:base≤w.heap.size)
  (h:∀ a' c' w',Hid (w'.ownsRow base e size (.slice a' (n+m) c') (n+m) (xs ++ news))→Hid (w.grownBy w' v.ownBlock)→Hid ((Value.slice a' (n+m) c').ownBlock=v.ownBlock∨(Value.slice a' (n+m) c').ownBlock=some w.heap.size)→K (a.put o.dst (.slice a' (n+m) c')) w'):o.wp P a w K Q:=by
 obtain ⟨a',c',w',hr,h2,h3,h4⟩:=zfK (P:=P) w base t o.type e z size bytes ht hinfo hzs hsz v n xs hown sp m c news hl hnil hnews h1 h63 hbytes hbase
 unfold Oper.wp execOp
 simp only [ho,resolve,invoke,builtin,Sem.run_bind,Sem.run_pure,Result.andThen_ok,List.map_toArray,List.map_cons,List.map_nil,hs,hx,hr]
 exact h a' c' w' h2 h3 h4
theorem zae {P:Program}{w:World}{ops:Array Oper}{rest:List Oper}{o:Oper}{a:Act}{Q:Exit→Act→World→Prop} (hgd:o.guard=none) (s x:Operand) (t:TypeId)
  (ho:o.op=.call { callee:=.builtin .append,args:=#[s,x],argTypes:=#[t,t] })
  (base:Nat) (e:TypeId) (z:Value) (size bytes:Nat) (ht:P.underlying t=some (.slice e)) (hinfo:(P.info? e).map (fun i=>(i.zero,i.size,i.bytes))=some (some z,size,bytes))
  (hzs:z.cells.size=size) (hsz:0<size) (v:Value) (n:Nat) (xs:List Value) (hs:a.eval s=v) (hown:w.ownsRow base e size v n xs)
  (sp:Option Addr) (m c:Nat) (hx:a.eval x=.slice sp m c) (news:List Value) (hl:news.length=m * size) (hnil:sp=none→m=0) (hnews:∀ a,sp=some a→∀ j u,news[j]?=some u→w.cell? (a.add j)=some u) (h1:∀ u∈news,u.oneCell'=true)
  (h63:n+m≤maxLen) (hbytes:(n+m) * bytes≤140737488355328) (hbase:base≤w.heap.size)
  (h:∀ a' c' w',Hid (w'.ownsRow base e size (.slice a' (n+m) c') (n+m) (xs ++ news))→Hid (w.grownBy w' v.ownBlock)→Hid ((Value.slice a' (n+m) c').ownBlock=v.ownBlock∨(Value.slice a' (n+m) c').ownBlock=some w.heap.size)→wpList P ops Q rest (a.put o.dst (.slice a' (n+m) c')) w'):wpList P ops Q (o :: rest) a w:=
 wpList_plain hgd fun _ hK=>zdN s x t ho base e z size bytes ht hinfo hzs hsz v n xs hs hown sp m c hx news hl hnil hnews h1 h63 hbytes hbase fun a' c' w' h2 h3 h4=>hK _ _ (h a' c' w' h2 h3 h4)
theorem zaq {P:Program}{w:World}{ops:Array Oper}{o:Oper}{a:Act}{K:Act→World→Prop}{Q:Exit→Act→World→Prop}{E:Prop} (hgd:o.guard=none) (s x:Operand) (t:TypeId)
  (ho:o.op=.call { callee:=.builtin .append,args:=#[s,x],argTypes:=#[t,t] })
  (base:Nat) (e:TypeId) (z:Value) (size bytes:Nat) (ht:P.underlying t=some (.slice e)) (hinfo:(P.info? e).map (fun i=>(i.zero,i.size,i.bytes))=some (some z,size,bytes))
  (hzs:z.cells.size=size) (hsz:0<size) (v:Value) (n:Nat) (xs:List Value) (hs:a.eval s=v) (hown:w.ownsRow base e size v n xs)
  (sp:Option Addr) (m c:Nat) (hx:a.eval x=.slice sp m c) (news:List Value) (hl:news.length=m * size) (hnil:sp=none→m=0) (hnews:∀ a,sp=some a→∀ j u,news[j]?=some u→w.cell? (a.add j)=some u) (h1:∀ u∈news,u.oneCell'=true)
  (h63:n+m≤maxLen) (hbytes:(n+m) * bytes≤140737488355328) (hbase:base≤w.heap.size)
  (h:∀ a' c' w',Hid (w'.ownsRow base e size (.slice a' (n+m) c') (n+m) (xs ++ news))→Hid (w.grownBy w' v.ownBlock)→Hid ((Value.slice a' (n+m) c').ownBlock=v.ownBlock∨(Value.slice a' (n+m) c').ownBlock=some w.heap.size)→K (a.put o.dst (.slice a' (n+m) c')) w') :
  if Region.wanted o (yielded ops a.tmps)=true then Oper.wp P o a w K Q else E:=by
 have hw:Region.wanted o (yielded ops a.tmps)=true:=by simp [Region.wanted,hgd]
 rw [if_pos hw]
 exact zdN s x t ho base e z size bytes ht hinfo hzs hsz v n xs hs hown sp m c hx news hl hnil hnews h1 h63 hbytes hbase h
theorem zaf {w w':World}{base:Nat}{e:TypeId}{size:Nat}{v:Value}{n:Nat}{xs:List Value} (h:w.ownsRow base e size v n xs) (hb:∀ g,v.ownBlock=some g→w'.heap[g]?=w.heap[g]?):w'.ownsRow base e size v n xs:=by
 refine ⟨h.1,?_⟩
 rcases h.2 with h | ⟨g,cap,cur,rfl,h2,h3,h4⟩
 ·exact .inl h
 ·exact .inr ⟨g,cap,cur,rfl,h2,(hb g rfl).trans h3,h4⟩
theorem zar {w:World}{base base':Nat}{e:TypeId}{size:Nat}{v:Value}{n:Nat}{xs:List Value} (h:w.ownsRow base e size v n xs) (hb:base'≤base):w.ownsRow base' e size v n xs:=by
 refine ⟨h.1,?_⟩
 rcases h.2 with h | ⟨g,cap,cur,rfl,h2,h3⟩
 ·exact .inl h
 ·exact .inr ⟨g,cap,cur,rfl,by omega,h3⟩
theorem zam {w:World}{base:Nat}{e:TypeId}{size:Nat}{a:Option Addr}{n c:Nat}{xs:List Value} (h:w.ownsRow base e size (.slice a n c) n xs) {j:Nat}{x:Value} (hx:xs[j]?=some x):∃ g,a=some ⟨g,0,none⟩∧base≤g∧w.cell? ⟨g,j,none⟩=some x∧w.frozen? ⟨g,j,none⟩=false:=by
 have hj:j<xs.length:=(List.getElem?_eq_some_iff.1 hx).1
 rcases h.2 with ⟨_,h0⟩ | ⟨g,cap,cur,he,h2,h3,h4,h5,h6,h7⟩
 ·have:=h.1
  subst h0
  simp at this
  subst this
  simp at hj
 ·simp only [Value.slice.injEq] at he
  obtain ⟨rfl,_,_⟩:=he
  refine ⟨g,rfl,h2,?_,by simp [World.frozen?,h3]⟩
  rw [← h7,List.getElem?_take] at hx
  split at hx
  ·simp [World.cell?,h3]
   simpa using hx
  ·cases hx
def Apart (x y:Value):Prop:=∀ g,x.ownBlock=some g→y.ownBlock≠some g
theorem OwnB.owns {w:World}{g:Nat}{t:TypeId}{m N base:Nat}{rs:List (List Value)} (h:OwnB w g t m N rs) (hb:base≤g) (hN:rs.length=N) (hm:N≤maxLen):w.ownsRow base t m (.slice (some ⟨g,0,none⟩) N N) N rs.flatten:=by
 obtain ⟨c,h1,h2,_,h4⟩:=h
 have hfl:rs.flatten.length=N * m:=by
  rw [List.length_flatten]
  have:∀ (l:List (List Value)),(∀ r∈l,r.length=m)→(l.map List.length).sum=l.length * m:=by
   intro l
   induction l with
   | nil=>intro _;simp
   | cons r l ih=>
    intro hr
    rw [List.map_cons,List.sum_cons,ih (fun x hx=>hr x (by simp [hx])),hr r (by simp),List.length_cons,Nat.succ_mul]
    omega
  rw [this rs (fun r hr=>by
   obtain ⟨i,hi,rfl⟩:=List.getElem_of_mem hr
   exact (h4 i _ (List.getElem?_eq_getElem hi)).1),hN]
 refine ⟨hfl,.inr ⟨g,N,c,rfl,hb,h1,Nat.le_refl _,hm,h2,?_⟩⟩
 rw [List.take_of_length_le (by simp;omega)]
 apply List.ext_getElem?
 intro j
 by_cases hj:j<N * m
 ·have hm0:0<m:=by
   rcases Nat.eq_zero_or_pos m with h0 | h0
   ·subst h0;simp at hj
   ·exact h0
  have hi:j / m<rs.length:=by rw [hN];exact Nat.div_lt_of_lt_mul (by rw [Nat.mul_comm];exact hj)
  obtain ⟨hr,hc⟩:=h4 (j / m) _ (List.getElem?_eq_getElem hi)
  have hjm:j % m<rs[j / m].length:=by rw [hr];exact Nat.mod_lt _ hm0
  have h5:=hc (j % m) _ (List.getElem?_eq_getElem hjm)
  rw [Nat.div_add_mod' j m] at h5
  rw [Array.getElem?_toList,h5]
  have key:∀ (l:List (List Value)) (k:Nat),(∀ r∈l,r.length=m)→∀ (hk:k / m<l.length) (hkm:k % m<(l[k / m]).length),l.flatten[k]?=some ((l[k / m])[k % m]):=by
   intro l
   induction l with
   | nil=>intro k _ hk;simp at hk
   | cons r l ih=>
    intro k hlen hk hkm
    have hrm:r.length=m:=hlen r (by simp)
    rw [List.flatten_cons]
    by_cases hkr:k<m
    ·have e1:k / m=0:=Nat.div_eq_of_lt hkr
     have e2:k % m=k:=Nat.mod_eq_of_lt hkr
     rw [List.getElem?_append_left (by omega)]
     simp only [e1,e2,List.getElem_cons_zero]
     rw [List.getElem?_eq_getElem (by omega)]
    ·have e1:k / m=(k - m) / m+1:=by
      have:=Nat.add_div_right (k - m) hm0
      rw [Nat.sub_add_cancel (by omega)] at this
      exact this
     have e2:k % m=(k - m) % m:=by
      have:=Nat.add_mod_right (k - m) m
      rw [Nat.sub_add_cancel (by omega)] at this
      exact this
     rw [List.getElem?_append_right (by omega),hrm]
     have hk':(k - m) / m<l.length:=by
      rw [e1] at hk
      simpa using hk
     have:=ih (k - m) (fun x hx=>hlen x (by simp [hx])) hk' (by rw [hlen _ (by simp [List.getElem_mem])];exact Nat.mod_lt _ hm0)
     rw [this]
     simp only [e1,e2,List.getElem_cons_succ]
  exact (key rs j (fun r hr=>by
   obtain ⟨i,hi',rfl⟩:=List.getElem_of_mem hr
   exact (h4 i _ (List.getElem?_eq_getElem hi')).1) hi hjm).symm
 ·rw [List.getElem?_eq_none (by simp;omega),List.getElem?_eq_none (by omega)]
end Go.Proofs.YtmmdlgjmplddiaaGreat
namespace Go.Proofs.YtmmdlgjmplddiaaGreat
open Go.RowKit
def icells (xs:List Int):List Value:=xs.map (Value.int .i64)
structure OLL (w:World) (base:Nat) (v:Value) (n:Nat) (xss:List (List Int)) (vs:List Value):Prop where
 num:n=xss.length
 len:vs.length=xss.length
 own:w.ownsRow base 39 1 v n vs
 each:∀ (i:Nat) (xs:List Int) (x:Value),xss[i]?=some xs→vs[i]?=some x→(∃ a c,x=.slice a xs.length c)∧w.ownsRow base 3 1 x xs.length (icells xs)
 apart:∀ x∈vs,Apart v x
 pair:vs.Pairwise Apart
def InLL (v:Value) (vs:List Value) (g:Nat):Prop:=v.ownBlock=some g∨∃ x∈vs,x.ownBlock=some g
theorem OLL.each' {w:World}{base:Nat}{v:Value}{n:Nat}{xss:List (List Int)}{vs:List Value} (h:OLL w base v n xss vs) {x:Value} (hx:x∈vs):∃ xs∈xss,w.ownsRow base 3 1 x xs.length (icells xs):=by
 obtain ⟨i,hi,rfl⟩:=List.getElem_of_mem hx
 have hf:i<xss.length:=by rw [← h.len];exact hi
 exact ⟨xss[i],List.getElem_mem hf,(h.each i _ _ (List.getElem?_eq_getElem hf) (List.getElem?_eq_getElem hi)).2⟩
theorem OLL.range {w:World}{base:Nat}{v:Value}{n:Nat}{xss:List (List Int)}{vs:List Value} (h:OLL w base v n xss vs) {g:Nat} (hg:InLL v vs g):base≤g∧g<w.heap.size:=by
 rcases hg with hg | ⟨x,hx,hg⟩
 ·exact h.own.lt g hg
 ·obtain ⟨xs,_,ho⟩:=h.each' hx
  exact ho.lt g hg
theorem OLL.kept {w w':World}{base:Nat}{v:Value}{n:Nat}{xss:List (List Int)}{vs:List Value} (h:OLL w base v n xss vs) (hb:∀ g,InLL v vs g→w'.heap[g]?=w.heap[g]?):OLL w' base v n xss vs:=
 ⟨h.num,h.len,zaf h.own (fun g hg=>hb g (.inl hg)),fun i f x hf hx=>⟨(h.each i f x hf hx).1,zaf (h.each i f x hf hx).2 (fun g hg=>hb g (.inr ⟨x,List.mem_of_getElem? hx,hg⟩))⟩,h.apart,h.pair⟩
theorem OLL.below {w w':World}{base:Nat}{v:Value}{n:Nat}{xss:List (List Int)}{vs:List Value} (h:OLL w base v n xss vs) (hb:Below w.heap.size w w'):OLL w' base v n xss vs:=
 h.kept fun g hg=>hb.block g (h.range hg).2
theorem OLL.nil (w:World) (base:Nat):OLL w base (.slice none 0 0) 0 [] []:=
 ⟨rfl,rfl,World.ownsRow_nil _ _ _ _,fun i f x hf=>by simp at hf,fun x hx=>by simp at hx,List.Pairwise.nil⟩
theorem zaU.owns {w:World}{base n:Nat}{a:Option Addr}{c:Nat}{xs:List Int} (h:w.ownsRow base 3 1 (.slice a n c) n (icells xs)):zaU none w a xs:=by
 intro i s hs
 have k0:(icells xs)[i]?=some (.int .i64 s):=by simp [icells,hs]
 obtain ⟨g,rfl,_,h0,_⟩:=zam h k0
 refine ⟨g,0,[.int .i64 s],rfl,Qb.bare _ _ _,rfl,?_,rfl⟩
 intro j v hj
 have hj0:j=0:=by
  have:=(List.getElem?_eq_some_iff.1 hj).1
  simp at this
  exact this
 subst hj0
 simp at hj
 subst hj
 simpa using h0
def zlS (w:World) (a:Option Addr) (xss:List (List Int)):Prop:=
 ∀ (i:Nat) (xs:List Int),xss[i]?=some xs→∃ b o a' c',a=some ⟨b,o,none⟩∧w.cell? ⟨b,o+i,none⟩=some (.slice a' xs.length c')∧zaU none w a' xs
theorem zlS.below {w w':World}{a:Option Addr}{xss:List (List Int)} (h:zlS w a xss) (hb:Below w.heap.size w w'):zlS w' a xss:=by
 intro i xs hx
 obtain ⟨b,o,a',c',e,hc,hi⟩:=h i xs hx
 exact ⟨b,o,a',c',e,zaa hb hc,hi.below hb⟩
theorem OLL.at {w:World}{base:Nat}{a:Option Addr}{n c:Nat}{xss:List (List Int)}{vs:List Value} (h:OLL w base (.slice a n c) n xss vs):zlS w a xss:=by
 intro i xs hx
 have hi:i<xss.length:=(List.getElem?_eq_some_iff.1 hx).1
 have hv:vs[i]?=some (vs[i]'(by rw [h.len];exact hi)):=List.getElem?_eq_getElem _
 obtain ⟨⟨a',c',e⟩,ho⟩:=h.each i xs _ hx hv
 obtain ⟨g,rfl,_,h0,_⟩:=zam h.own hv
 rw [e] at h0 ho
 exact ⟨g,0,a',c',rfl,by simpa using h0,zaU.owns ho⟩
end Go.Proofs.YtmmdlgjmplddiaaGreat
namespace Go.Proofs.YtmmdlgjmplddiaaGreat
open Go.RowKit
theorem zaw (w:World) (L:List Value) (t:TypeId) (b:Nat) (hb:b=w.heap.size) (ad:Addr) (e:some (⟨b,0,none⟩:Addr)=some ad) (j:Nat) (u:Value) (h:L[j]?=some u):(w.alloc (.cells L.toArray t)).cell? (ad.add j)=some u:=by
 subst hb
 cases e
 rw [Addr.add_mid,Nat.zero_add]
 have hb:=heap_alloc_new w (.cells L.toArray t)
 simp only [World.cell?,hb]
 simpa using h
theorem zah {w:World}{base:Nat}{e:TypeId}{m:Nat}{v:Value}{n:Nat}{xs:List Value} (h:w.ownsRow base e m v n xs) {k:Nat} (hk:v.ownBlock=some k):∃ c,w.heap[k]?=some (.cells c e (0,0)):=by
 rcases h.2 with ⟨rfl,_⟩ | ⟨g,cap,cur,rfl,_,h3,_⟩
 ·simp [Value.ownBlock] at hk
 ·simp [Value.ownBlock] at hk
  subst hk
  exact ⟨cur,h3⟩
theorem zaF {w:World}{k:Nat}{c c':Array Value}{t t':TypeId}{f f':Nat × Nat} (h:w.heap[k]?=some (.cells c t f)) (h':w.heap[k]?=some (.cells c' t' f')) (hne:t≠t'):False:=by
 rw [h] at h'
 simp at h'
 exact hne h'.2.1
theorem zaj {P:World→Prop}{w1:World}{o:Obj} (h:∀ wt,Below w1.heap.size w1 wt→wt.heap[w1.heap.size]?=some o→P wt):P (w1.alloc o):=h _ ((Below.refl _ _).alloc (Nat.le_refl _) _) (heap_alloc_new _ _)
theorem zai {w w':World}{base:Nat}{e:TypeId}{m:Nat}{v:Value}{n:Nat}{xs:List Value} (h:w.ownsRow base e m v n xs) (hb:Below w.heap.size w w'):w'.ownsRow base e m v n xs:=
 zaf h fun k hk=>hb.block k (h.lt k hk).2
theorem zby {w w':World}{base:Nat}{e t:TypeId}{m:Nat}{v:Value}{n:Nat}{xs:List Value}{row:Option Nat} (h:w.ownsRow base e m v n xs) (hg:w.grownBy w' row) (ht:∀ k,row=some k→∃ c,w.heap[k]?=some (.cells c t (0,0))) (hne:t≠e):w'.ownsRow base e m v n xs:=
 zaf h fun k hk=>hg.block k (h.lt k hk).2 (fun e=>by
  obtain ⟨c,hc⟩:=ht k e.symm
  obtain ⟨c',hc'⟩:=zah h hk
  exact zaF hc hc' hne)
theorem zbI {w:World}{base b o:Nat}{e t:TypeId}{m:Nat}{v:Value}{n:Nat}{xs:List Value}{x:Value}{c:Array Value}{fr:Nat × Nat} (h:w.ownsRow base e m v n xs) (hb:w.heap[b]?=some (.cells c t fr)) (hne:t≠e):(w.setCell ⟨b,o,none⟩ x).ownsRow base e m v n xs:=
 zaf h fun k hk=>Below.heap_setCell _ _ _ _ (fun e=>by
  obtain ⟨c',hc'⟩:=zah h hk
  have e':k=b:=e
  subst e'
  exact zaF hb hc' hne)
theorem zaL {w w':World}{b:Nat}{t t':TypeId}{c:Array Value}{fr:Nat × Nat}{row:Option Nat} (h:w.heap[b]?=some (.cells c t fr)) (hg:w.grownBy w' row) (ht:∀ k,row=some k→∃ c,w.heap[k]?=some (.cells c t' (0,0))) (hne:t'≠t):w'.heap[b]?=some (.cells c t fr):=
 (hg.block b (zab h) (fun e=>by
  obtain ⟨c',hc⟩:=ht b e.symm
  exact zaF hc h hne)).trans h
theorem zbe {α:Type}{cells:α→List Value}{m:Nat} (hc:∀ x,(cells x).length=m):∀ (xs:List α) (i:Nat) (x:α) (j:Nat) (u:Value),xs[i]?=some x→(cells x)[j]?=some u→(xs.flatMap cells)[i * m+j]?=some u
 | [],i,x,j,u,h,_=>by simp at h
 | y :: r,0,x,j,u,h,hj=>by
  simp at h
  subst h
  have hl:j<(cells y).length:=(List.getElem?_eq_some_iff.1 hj).1
  rw [List.flatMap_cons,Nat.zero_mul,Nat.zero_add,List.getElem?_append_left hl]
  exact hj
 | y :: r,i+1,x,j,u,h,hj=>by
  rw [List.getElem?_cons_succ] at h
  have:=zbe hc r i x j u h hj
  have e:(i+1) * m=i * m+m:=Nat.succ_mul i m
  rw [List.flatMap_cons,List.getElem?_append_right (by rw [hc];omega),show (i+1) * m+j - (cells y).length=i * m+j by rw [hc];omega]
  exact this
end Go.Proofs.YtmmdlgjmplddiaaGreat
namespace Go.Proofs.YtmmdlgjmplddiaaGreat
open Go.RowKit
structure MkO (b:Option Nat) (w w':World):Prop where
 rest:Below 0 w w'
 block:∀ g,g<w.heap.size→b≠some g→w'.heap[g]?=w.heap[g]?
theorem MkO.refl (b:Option Nat) (w:World):MkO b w w:=⟨Below.refl _ _,fun _ _ _=>rfl⟩
theorem MkO.trans {b:Option Nat}{u v w:World} (h:MkO b u v) (k:MkO b v w):MkO b u w:=
 ⟨h.rest.trans k.rest,fun g hg hs=>(k.block g (Nat.lt_of_lt_of_le hg h.rest.size) hs).trans (h.block g hg hs)⟩
theorem MkO.of_below {b:Option Nat}{u v:World} (h:Below u.heap.size u v):MkO b u v:=⟨h.mono (Nat.zero_le _),fun g hg _=>h.block g hg⟩
theorem MkO.set {w:World}{g o:Nat} (x:Value):MkO (some g) w (w.setCell ⟨g,o,none⟩ x):=
 ⟨(Below.refl _ _).setCell (Nat.zero_le _) _,fun h _ hs=>Below.heap_setCell _ _ _ _ (fun e=>hs (by rw [e]))⟩
theorem MkO.below {b:Option Nat}{w w':World}{B:Nat} (h:MkO b w w') (hB:B≤w.heap.size) (hs:∀ g,b=some g→B≤g):Below B w w':=
 ⟨h.rest.os,h.rest.tape,h.rest.output,h.rest.size,fun k hk=>h.block k (by omega) (fun e=>by have:=hs k e;omega)⟩
end Go.Proofs.YtmmdlgjmplddiaaGreat
namespace Go.Proofs.YtmmdlgjmplddiaaGreat
open Go.RowKit
set_option maxHeartbeats 400000 in
theorem zds (c:Int) (w:World) :
  Calls Tryz.prog 136 #[.int .u8 c] w fun e w'=>e=.returned (.bool (isL c))∧w'=w:=by
 go_enter Tryz.func136,Tryz.ntmps136
 go_wp2
 all_goals (go_ret;exact ⟨by simp [isL];omega,rfl⟩)
set_option maxHeartbeats 400000 in
theorem ziu (c:Int) (w:World) :
  Calls Tryz.prog 137 #[.int .u8 c] w fun e w'=>e=.returned (.bool (isD c))∧w'=w:=by
 go_enter Tryz.func137,Tryz.ntmps137
 go_wp2
 all_goals (go_ret;exact ⟨by simp [isD];omega,rfl⟩)
theorem zbL (s:ByteArray):s.data.toList.length=s.size:=by
 obtain ⟨⟨l⟩⟩:=s
 rfl
theorem zgw (s:ByteArray) (h:0<s.size):s.data.toList.headD 0=s[0]:=by
 obtain ⟨⟨l⟩⟩:=s
 cases l with
 | nil=>exact absurd h (Nat.lt_irrefl 0)
 | cons a l=>rfl
theorem zkd (s:ByteArray) (k:Nat) (h:k<s.size):s.data.toList[k]'(by rw [zbL];exact h)=s[k]:=by
 obtain ⟨⟨l⟩⟩:=s
 rfl
theorem zhK {s:ByteArray}{k:Nat} (hk:k<s.size) (h:isC (s[k].toNat:Int)=false):gSym s.data.toList=false:=
 zl6 (k:=k) (by rw [zbL];exact hk) (by rw [zkd s k hk];exact h)
theorem zcO {s:ByteArray}{k:Nat} (hk:k<s.size) (h:(s.data.toList.take k).all zdT=true) (hc:isC (s[k].toNat:Int)=true):(s.data.toList.take (k+1)).all zdT=true:=
 zgq (by rw [zbL];exact hk) h (by rw [zkd s k hk];exact hc)
theorem zgg {s:ByteArray}{k:Nat} (h1:0<s.size) (h2:s.size≤20) (h3:isL (s[0].toNat:Int)=true) (hk:s.size≤k) (h4:(s.data.toList.take k).all zdT=true):gSym s.data.toList=true:=by
 refine zlo (by rw [zbL];omega) (by rw [zbL];omega) (by rw [zgw s h1];exact h3) ?_
 rwa [List.take_of_length_le (by rw [zbL];omega)] at h4
theorem znX (c:Int):isC c=(isL c || isD c || !(c != 45)):=by
 unfold isC
 congr 1
 by_cases h:c=45 <;> simp [h]
theorem znJ {c:Int} (h:(97≤c∧c≤122)∨(48≤c∧c≤57)∨(44<c∧c<46)):isC c=true:=by
 simp [isC,isL,isD];omega
theorem zmN {c:Int} (h:¬ ((97≤c∧c≤122)∨(48≤c∧c≤57)∨(44<c∧c<46))):isC c=false:=by
 simp [isC,isL,isD];omega
theorem zac {a b:Bool} (h:a=b):Ending.returned (.bool a)=.returned (.bool b):=by rw [h]
set_option maxHeartbeats 800000 in
theorem zaQ (s:ByteArray) (w:World) (hs:s.size≤maxLen) :
  Calls Tryz.prog 106 #[.string s] w fun e w'=>e=.returned (.bool (gSym s.data.toList))∧w'=w:=by
 unfold maxLen at hs
 by_cases h0:s.size<1
 ·have G:Hid (gSym s.data.toList=false):=zdv (s:=s.data.toList) (by rw [zbL];omega)
  have t1:(s.size:Int)<1:=by omega
  go_enter Tryz.func106,Tryz.ntmps106
  go_wp2
  go_ret
  exact ⟨zac G.out.symm,rfl⟩
 ·by_cases h1:20<s.size
  ·have G:Hid (gSym s.data.toList=false):=zg3 (s:=s.data.toList) (by rw [zbL];omega)
   have t1:(20:Int)<s.size:=by omega
   go_enter Tryz.func106,Tryz.ntmps106
   go_wp2
   go_ret
   exact ⟨zac G.out.symm,rfl⟩
  ·have hp:0<s.size:=by omega
   have d1:decide ((s.size:Int)<1)=false:=by simp;omega
   have d2:decide ((20:Int)<s.size)=false:=by simp;omega
   by_cases h2:isL (s[0].toNat:Int)=true
   ·have H2:Hid (isL (s[0].toNat:Int)=true):=h2
    go_enter Tryz.func106,Tryz.ntmps106
    go_wp2_with (go_at_call 136;refine (zds _ _).mono ?_;rintro e w' ⟨rfl,rfl⟩)
    clear h2
    go_loop [3] (fun i=>∃ k:Nat,1≤k∧k≤s.size∧i=.int .i64 k∧(s.data.toList.take k).all zdT=true) (fun i=>s.size - (intOf i).toNat)
    case atStart=>exact ⟨1,by omega,by omega,rfl,zcO (k:=0) hp (by simp) (zjZ H2.out)⟩
    case round=>
     obtain ⟨k,hk1,hk,rfl,hall⟩:=hrel
     have HA:Hid ((s.data.toList.take k).all zdT=true):=hall
     clear hall
     by_cases hlt:k<s.size
     ·obtain ⟨hC⟩:Nonempty (Hid (isC (s[k].toNat:Int)=(isL (s[k].toNat:Int) || isD (s[k].toNat:Int) || !((s[k].toNat:Int) != 45)))):=⟨znX _⟩
      cases hL:isL (s[k].toNat:Int) <;> cases hD:isD (s[k].toNat:Int) <;> cases hM:((s[k].toNat:Int) != 45)
      all_goals
       go_wp2_with (first | (go_at_call 136;refine (zds _ _).mono ?_;rintro e w' ⟨rfl,rfl⟩) | (go_at_call 137;refine (ziu _ _).mono ?_;rintro e w' ⟨rfl,rfl⟩))
       first
       | (go_round
          case rel=>exact ⟨k+1,by omega,by omega,by go_num,zcO hlt HA.out (by rw [hC.out,hL,hD,hM];rfl)⟩
          case measure=>simp [intOf];omega)
       | (go_ret
          exact ⟨zac (zhK hlt (by rw [hC.out,hL,hD,hM];rfl)).symm,rfl⟩)
     ·go_wp2
      go_ret
      exact ⟨zac (zgg hp (by omega) H2.out (by omega) HA.out).symm,rfl⟩
   ·have h2':isL (s[0].toNat:Int)=false:=by simpa using h2
    have G:Hid (gSym s.data.toList=false):=zhn (by rw [zgw s hp];exact h2')
    clear h2
    go_enter Tryz.func106,Tryz.ntmps106
    go_wp2_with (go_at_call 136;refine (zds _ _).mono ?_;rintro e w' ⟨rfl,rfl⟩)
    go_ret
    exact ⟨zac G.out.symm,rfl⟩
set_option maxHeartbeats 800000 in
theorem zaH (s:ByteArray) (w:World) (hs:s.size≤maxLen) :
  Calls Tryz.prog 87 #[.string s] w fun e w'=>e=.returned (.bool (gSym s.data.toList))∧w'=w:=by
 unfold maxLen at hs
 by_cases h0:s.size<1
 ·have G:Hid (gSym s.data.toList=false):=zdv (s:=s.data.toList) (by rw [zbL];omega)
  have t1:(s.size:Int)<1:=by omega
  go_enter Tryz.func87,Tryz.ntmps87
  go_wp2
  go_ret
  exact ⟨zac G.out.symm,rfl⟩
 ·by_cases h1:20<s.size
  ·have G:Hid (gSym s.data.toList=false):=zg3 (s:=s.data.toList) (by rw [zbL];omega)
   have t1:(20:Int)<s.size:=by omega
   go_enter Tryz.func87,Tryz.ntmps87
   go_wp2
   go_ret
   exact ⟨zac G.out.symm,rfl⟩
  ·have hp:0<s.size:=by omega
   have d1:decide ((s.size:Int)<1)=false:=by simp;omega
   have d2:decide ((20:Int)<s.size)=false:=by simp;omega
   by_cases h2:isL (s[0].toNat:Int)=true
   ·have H2:Hid (isL (s[0].toNat:Int)=true):=h2
    simp only [isL,Bool.and_eq_true,decide_eq_true_eq] at h2
    obtain ⟨h2a,h2b⟩:=h2
    have d3:decide ((s[0].toNat:Int)<97)=false:=by simp;omega
    have d4:decide ((122:Int)<(s[0].toNat:Int))=false:=by simp;omega
    go_enter Tryz.func87,Tryz.ntmps87
    go_wp2
    clear h2a h2b d3 d4
    go_loop [3] (fun i=>∃ k:Nat,k≤s.size∧i=.int .i64 k∧(s.data.toList.take k).all zdT=true) (fun i=>s.size - (intOf i).toNat)
    case atStart=>exact ⟨0,by omega,rfl,by simp⟩
    case round=>
     obtain ⟨k,hk,rfl,hall⟩:=hrel
     have HA:Hid ((s.data.toList.take k).all zdT=true):=hall
     clear hall
     by_cases hlt:k<s.size
     ·rcases (show (s[k].toNat:Int)<45∨(44<(s[k].toNat:Int)∧(s[k].toNat:Int)<46)∨(45<(s[k].toNat:Int)∧(s[k].toNat:Int)<48)∨(48≤(s[k].toNat:Int)∧(s[k].toNat:Int)≤57)∨(57<(s[k].toNat:Int)∧(s[k].toNat:Int)<97)∨(97≤(s[k].toNat:Int)∧(s[k].toNat:Int)≤122)∨122<(s[k].toNat:Int) from by omega) with hr | ⟨hr,hr'⟩ | ⟨hr,hr'⟩ | ⟨hr,hr'⟩ | ⟨hr,hr'⟩ | ⟨hr,hr'⟩ | hr
      all_goals
       first
       | have he:((s[k].toNat:Int)==45)=false:=(by simp;omega)
       | have he:((s[k].toNat:Int)==45)=true:=(by simp;omega)
       first
       | have hf:decide ((s[k].toNat:Int)≤57)=false:=(by simp;omega)
       | have hf:decide ((s[k].toNat:Int)≤57)=true:=(by simp;omega)
       first
       | have hg:decide ((s[k].toNat:Int)≤122)=false:=(by simp;omega)
       | have hg:decide ((s[k].toNat:Int)≤122)=true:=(by simp;omega)
       go_wp2
       first
       | (go_round
          case rel=>exact ⟨k+1,by omega,by go_num,zcO hlt HA.out (znJ (by omega))⟩
          case measure=>simp [intOf];omega)
       | (go_ret
          exact ⟨zac (zhK hlt (zmN (by omega))).symm,rfl⟩)
     ·go_wp2
      go_ret
      exact ⟨zac (zgg hp (by omega) H2.out (by omega) HA.out).symm,rfl⟩
   ·have h2':isL (s[0].toNat:Int)=false:=by simpa using h2
    have G:Hid (gSym s.data.toList=false):=zhn (by rw [zgw s hp];exact h2')
    clear h2
    have h3:(s[0].toNat:Int)<97∨(97≤(s[0].toNat:Int)∧122<(s[0].toNat:Int)):=by
     simp only [isL,Bool.and_eq_false_iff,decide_eq_false_iff_not] at h2'
     omega
    rcases h3 with h3 | ⟨h3,h4⟩
    all_goals
     clear h2'
     go_enter Tryz.func87,Tryz.ntmps87
     go_wp2
     go_ret
     exact ⟨zac G.out.symm,rfl⟩
end Go.Proofs.YtmmdlgjmplddiaaGreat
namespace Go.Proofs.YtmmdlgjmplddiaaGreat
open Go.RowKit
attribute [local go_sem ↓] Go.wp_at_zero Go.wp_at_succ
set_option maxHeartbeats 800000 in
theorem zcr (v:V) (w:World) (hs:v.sym.size≤maxLen) :
  Calls Tryz.prog 110 #[.agg #[.int .i64 v.kind,.int .i64 v.num,.string v.sym]] w fun e w'=>
   e=.returned (.bool (gVal v))∧Below w.heap.size w w':=by
 have B1:∀ o,Below w.heap.size w (w.alloc o):=fun o=>(Below.refl _ _).alloc (Nat.le_refl _) _
 obtain ⟨G⟩:Nonempty (Hid (gVal v=((v.kind==0 && v.sym.toList.isEmpty) || (v.kind==1 && (v.num==0 && gSym v.sym.data.toList))))):=⟨rfl⟩
 have hg:=zaH v.sym (w.alloc (.cells #[.int .i64 v.kind,.int .i64 v.num,.string v.sym] 109)) hs
 cases h1:(v.kind==0) <;> cases h2:v.sym.toList.isEmpty <;> cases h3:(v.kind==1) <;> cases h4:(v.num==0)
 all_goals
  go_enter Tryz.func110,Tryz.ntmps110
  go_wp2_with (go_at_call 87;refine hg.mono ?_;rintro e w' ⟨rfl,rfl⟩)
 all_goals try go_ret
 all_goals exact ⟨zac (by rw [G.out,h1,h2,h3,h4];simp),B1 _⟩
end Go.Proofs.YtmmdlgjmplddiaaGreat
namespace Go.Proofs.YtmmdlgjmplddiaaGreat
open Go.RowKit
attribute [local go_sem ↓] Go.wp_at_zero Go.wp_at_succ
theorem hidR {p:Prop} (h:p):Hid p:=h
def Rdr (w:World) (g:Nat):Prop:=∃ (a:Option Addr) (n c i:Nat),w.heap[g]?=some (.cells #[.slice a n c,.int .i64 (i:Int)] 64 (0,0))∧i≤n∧n≤1048576 ∧
 ∀ j,j<n→∃ (b o:Nat) (u:Nat),a=some ⟨b,o,none⟩∧b<g∧u<256∧w.cell? ⟨b,o+j,none⟩=some (.int .u8 (u:Int))
theorem Rdr.bel {w w':World}{g:Nat} (h:Rdr w g) (hb:Below w.heap.size w w'):Rdr w' g:=by
 obtain ⟨a,n,c,i,h1,h2,h3,h4⟩:=h
 refine ⟨a,n,c,i,(hb.block g (zab h1)).trans h1,h2,h3,fun j hj=>?_⟩
 obtain ⟨b,o,u,e1,e2,e3,e4⟩:=h4 j hj
 exact ⟨b,o,u,e1,e2,e3,zaa hb e4⟩
theorem Rdr.lt {w:World}{g:Nat} (h:Rdr w g):g<w.heap.size:=by
 obtain ⟨a,n,c,i,h1,_⟩:=h
 exact zab h1
theorem Rdr.old {w w':World}{g:Nat} (h:Rdr w g) (hb:Below (g+1) w w'):Rdr w' g:=by
 obtain ⟨a,n,c,i,h1,h2,h3,h4⟩:=h
 refine ⟨a,n,c,i,(hb.block g (by omega)).trans h1,h2,h3,fun j hj=>?_⟩
 obtain ⟨b,o,u,e1,e2,e3,e4⟩:=h4 j hj
 refine ⟨b,o,u,e1,e2,e3,?_⟩
 rw [← e4]
 exact World.cell?_of_block (w:=w) (hb.block b (by omega))
def Rs (g:Nat) (w w':World):Prop:=MkO (some g) w w'∧Rdr w' g
theorem Rs.trans {g:Nat}{u v w:World} (h:Rs g u v) (k:Rs g v w):Rs g u w:=⟨h.1.trans k.1,k.2⟩
theorem Rs.bel {g:Nat}{u v w:World} (h:Rs g u v) (hb:Below v.heap.size v w):Rs g u w:=⟨h.1.trans (MkO.of_below hb),h.2.bel hb⟩
theorem Rs.refl {g:Nat}{w:World} (h:Rdr w g):Rs g w w:=⟨MkO.refl _ _,h⟩
theorem Rs.of {g:Nat}{w w':World} (h:Rdr w g) (hb:Below w.heap.size w w'):Rs g w w':=(Rs.refl h).bel hb
set_option maxHeartbeats 1600000 in
theorem zbf (g:Nat) (w:World) (h:Rdr w g):Calls Tryz.prog 49 #[.pointer (some ⟨g,0,none⟩)] w fun e w'=>∃ c:Nat,c<256∧e=.returned (.int .i64 (c:Int))∧Rs g w w':=by
 have H:=hidR h
 obtain ⟨a,n,c,i,h1,h2,h3,h4⟩:=h
 have c0:w.cell? ⟨g,0,none⟩=some (.slice a n c):=by simp [World.cell?,h1]
 have c1:w.cell? ⟨g,1,none⟩=some (.int .i64 (i:Int)):=by simp [World.cell?,h1]
 have z1:w.frozen? ⟨g,1,none⟩=false:=by simp [World.frozen?,h1]
 have hlt:g<w.heap.size:=zab h1
 have H1:=hidR h1
 have H4:=hidR h4
 clear h1 h4
 by_cases hin:i<n
 ·obtain ⟨b,o,u,rfl,hbg,hu,hcu⟩:=H4.out i hin
  have hI:((i:Nat):Int)<((n:Nat):Int):=by omega
  have hI0:(0:Int)≤(i:Int):=by omega
  go_enter Tryz.func49,Tryz.ntmps49
  go_wp2
  go_region
  go_wp2
  go_region
  go_wp2
  go_ret
  refine ⟨u,hu,rfl,?_,?_⟩
  ·exact (MkO.set _).trans (MkO.of_below (Below.refl _ _).drew.drew)
  ·refine ⟨some ⟨b,o,none⟩,n,c,i+1,?_,by omega,h3,fun j hj=>?_⟩
   ·have:=zad (w:=w) (g:=g) (i:=1) H1.out (.int .i64 ((i:Int)+1))
    exact this
   ·obtain ⟨b',o',u',e1,e2,e3,e4⟩:=H4.out j hj
    refine ⟨b',o',u',e1,e2,e3,?_⟩
    rw [← e4]
    exact World.cell?_of_block (w:=w) (Below.heap_setCell _ _ _ _ (Nat.ne_of_lt e2))
 ·go_enter Tryz.func49,Tryz.ntmps49
  go_wp2
  go_region
  go_wp2
  go_ret
  exact ⟨0,by omega,rfl,Rs.of H.out (Below.refl _ _).drew⟩
end Go.Proofs.YtmmdlgjmplddiaaGreat
