/-
  OUR OWN TEXT. Val, Gm, Sz0, one behind the other.
-/
import Derived.Test.YtmmdlgjmplddiaaGreatKag
import Derived.Test.YtmmdlgjmplddiaaGreatOwnm
namespace Go.Proofs.YtmmdlgjmplddiaaGreat
def gVal (v:V):Bool:=(v.kind==0 && v.sym.toList.isEmpty) || (v.kind==1 && (v.num==0 && gSym v.sym.data.toList))
def zbn (vs:List V):Bool:=decide (vs.length≤6) && vs.all gVal
def okF (last:Int) (f:F):Bool:=decide (last<f.tag) && (decide (f.tag≤1000000) && (gSym f.cls.data.toList && zbn f.slots))
def zbs (last:Int):List F→Bool
 | []=>true
 | f :: r=>okF last f && zbs f.tag r
def zaS (fs:List F):Bool:=decide (fs.length≤40) && zbs 0 fs
def zcs (sg:Bool) (f g:F):Bool:=!(sg && (decide (g.cls=f.cls) && decide (f.slots=g.slots)))
def pre1 (sg:Bool) (f:F) (pre:List F):Bool:=pre.all (zcs sg f)
def pairs (sg:Bool) (nx:Int):List F→List F→Bool
 | _,[]=>true
 | pre,f :: r=>decide (f.tag<nx) && (pre1 sg f pre && pairs sg nx (pre ++ [f]) r)
def zeN (fs:List F) (nx cp:Int):Bool:=decide (0≤cp) && (decide (cp≤40) && (decide ((fs.length:Int)≤cp) && (zaS fs && (decide (1≤nx) && decide (nx≤1000001)))))
def zby (fs:List F) (nx cp:Int) (sg:Bool):Bool:=zeN fs nx cp && pairs sg nx [] fs
abbrev Lk:=ByteArray × List V
def like (f:F):Lk:=(f.cls,f.slots)
theorem zlY {f g:F}:like f=like g ↔ f.cls=g.cls∧f.slots=g.slots:=Prod.mk.injEq _ _ _ _ ▸ Iff.rfl
theorem zjl (sg:Bool) (nx:Int):∀ (fs pre:List F),pairs sg nx pre fs=(fs.all (fun f=>decide (f.tag<nx)) && pairs sg (nx) pre fs)
 | [],_=>by simp [pairs]
 | f :: r,pre=>by
  simp only [pairs,List.all_cons]
  rw [zjl sg nx r (pre ++ [f])]
  cases decide (f.tag<nx) <;> cases pre1 sg f pre <;> cases r.all (fun f=>decide (f.tag<nx)) <;> cases pairs sg nx (pre ++ [f]) r <;> rfl
theorem zfI (nx:Int):∀ (fs pre:List F),pairs false nx pre fs=fs.all (fun f=>decide (f.tag<nx))
 | [],_=>by simp [pairs]
 | f :: r,pre=>by
  simp only [pairs,List.all_cons]
  rw [zfI nx r (pre ++ [f])]
  have:pre1 false f pre=true:=by simp [pre1,zcs]
  simp [this]
theorem zhU (f:F) (pre:List F):pre1 true f pre=true ↔ like f ∉ pre.map like:=by
 unfold pre1
 rw [List.all_eq_true]
 constructor
 ·intro h hm
  obtain ⟨g,hg,he⟩:=List.mem_map.1 hm
  have:=h g hg
  rw [zlY] at he
  simp [zcs,he.1,he.2] at this
 ·intro h g hg
  simp only [zcs,Bool.true_and,Bool.not_eq_true',Bool.and_eq_false_iff,decide_eq_false_iff_not]
  by_cases h1:g.cls=f.cls
  ·right
   intro h2
   exact h (List.mem_map.2 ⟨g,hg,zlY.2 ⟨h1,h2.symm⟩⟩)
  ·left
   exact h1
theorem zgk (nx:Int):∀ (fs pre:List F),(pre.map like).Nodup→pairs true nx pre fs=(fs.all (fun f=>decide (f.tag<nx)) && decide (((pre ++ fs).map like).Nodup))
 | [],pre,h=>by simp [pairs,h]
 | f :: r,pre,h=>by
  simp only [pairs,List.all_cons]
  by_cases hm:like f∈pre.map like
  ·have:¬ ((pre ++ f :: r).map like).Nodup:=by
    rw [List.map_append,List.nodup_append]
    rintro ⟨_,_,h3⟩
    exact h3 (like f) hm (like f) (by simp) rfl
   have hp:pre1 true f pre=false:=by
    cases hq:pre1 true f pre
    ·rfl
    ·exact absurd hm ((zhU f pre).1 hq)
   rw [decide_eq_false this,hp]
   simp
  ·have h':((pre ++ [f]).map like).Nodup:=by
    rw [List.map_append,List.nodup_append]
    refine ⟨h,by simp,?_⟩
    intro a ha b hb
    simp at hb
    subst hb
    intro e
    exact hm (e ▸ ha)
   rw [zgk nx r (pre ++ [f]) h',(zhU f pre).2 hm,Bool.true_and,List.append_assoc,Bool.and_assoc]
   rfl
end Go.Proofs.YtmmdlgjmplddiaaGreat
namespace Go.Proofs.YtmmdlgjmplddiaaGreat
open Go.RowKit
def Qb (q:Option Nat) (w:World) (t:TypeId) (b:Nat):Prop:=∀ B,q=some B→B≤b∧∃ c,w.heap[b]?=some (.cells c t (0,0))
def Low (B:Nat) (w w':World):Prop:=∀ b,B≤b→w'.heap[b]?=w.heap[b]?
theorem Low.refl (B:Nat) (w:World):Low B w w:=fun _ _=>rfl
theorem Low.trans {B:Nat}{w w' w'':World} (h:Low B w w') (h':Low B w' w''):Low B w w'':=fun b hb=>(h' b hb).trans (h b hb)
theorem Low.setCell {B g i:Nat}{w:World} (hg:g<B) (x:Value):Low B w (w.setCell ⟨g,i,none⟩ x):=fun b hb=>Below.heap_setCell _ _ _ _ (by simp;omega)
theorem Low.setCells {B g:Nat} (hg:g<B):∀ (vs:List Value) (o:Nat) (w:World),Low B w (w.setCells g o vs)
 | [],_,_=>Low.refl _ _
 | v :: r,o,_=>(Low.setCell hg v).trans (Low.setCells hg r (o+1) _)
theorem Qb.bare (w:World) (t:TypeId) (b:Nat):Qb none w t b:=fun B h=>by cases h
theorem Qb.low {B:Nat}{w w':World}{t:TypeId}{b:Nat} (h:Qb (some B) w t b) (hs:Low B w w'):Qb (some B) w' t b:=by
 intro B' e
 obtain ⟨h1,c,h2⟩:=h B' e
 injection e with e
 subst e
 exact ⟨h1,c,(hs b h1).trans h2⟩
theorem Qb.below {q:Option Nat}{w w':World}{t:TypeId}{b:Nat} (h:Qb q w t b) (hb:Below w.heap.size w w'):Qb q w' t b:=by
 cases q with
 | none=>exact Qb.bare _ _ _
 | some B=>
  intro B' e
  obtain ⟨h1,c,h2⟩:=h B' e
  exact ⟨h1,c,(hb.block b (zab h2)).trans h2⟩
section
variable {α : Type}
def zaD (R:World→List Value→α→Prop) (q:Option Nat) (t:TypeId) (m:Nat) (w:World) (a:Option Addr) (xs:List α):Prop:=
 ∀ (i:Nat) (x:α),xs[i]?=some x→∃ b o r,a=some ⟨b,o,none⟩∧Qb q w t b∧r.length=m∧(∀ j v,r[j]?=some v→w.cell? ⟨b,o+i * m+j,none⟩=some v)∧R w r x
variable {R R' : World → List Value → α → Prop} {q q' : Option Nat} {t : TypeId} {m : Nat} {w w' : World} {a : Option Addr} {xs : List α}
theorem zaD.nil:zaD R q t m w a ([]:List α):=fun i x h=>by simp at h
theorem zaD.below (h:zaD R q t m w a xs) (hR:∀ r x,x∈xs→R w r x→R w' r x) (hb:Below w.heap.size w w'):zaD R q t m w' a xs:=by
 intro i x hx
 obtain ⟨b,o,r,h1,h2,h3,h4,h5⟩:=h i x hx
 exact ⟨b,o,r,h1,h2.below hb,h3,fun j v hj=>zaa hb (h4 j v hj),hR r x (List.mem_of_getElem? hx) h5⟩
theorem zaD.low {B:Nat} (h:zaD R (some B) t m w a xs) (hR:∀ r x,x∈xs→R w r x→R w' r x) (hs:Low B w w'):zaD R (some B) t m w' a xs:=by
 intro i x hx
 obtain ⟨b,o,r,h1,h2,h3,h4,h5⟩:=h i x hx
 refine ⟨b,o,r,h1,h2.low hs,h3,fun j v hj=>?_,hR r x (List.mem_of_getElem? hx) h5⟩
 obtain ⟨hb,_⟩:=h2 B rfl
 have:=h4 j v hj
 unfold World.cell? at this ⊢
 rw [hs b hb]
 exact this
theorem zaD.weak (h:zaD R q t m w a xs) (hq:∀ b,Qb q w t b→Qb q' w t b) (hR:∀ r x,x∈xs→R w r x→R' w r x):zaD R' q' t m w a xs:=by
 intro i x hx
 obtain ⟨b,o,r,h1,h2,h3,h4,h5⟩:=h i x hx
 exact ⟨b,o,r,h1,hq b h2,h3,h4,hR r x (List.mem_of_getElem? hx) h5⟩
theorem zaD.take (h:zaD R q t m w a xs) (k:Nat):zaD R q t m w a (xs.take k):=by
 intro i x hx
 rw [List.getElem?_take] at hx
 split at hx
 ·exact h i x hx
 ·cases hx
def zcq (R:World→List Value→α→Prop) (t:TypeId) (m:Nat) (w:World) (g N:Nat) (xs:List α):Prop:=
 ∃ rows,OwnB w g t m N rows∧rows.length=xs.length∧∀ (i:Nat) (x:α) (r:List Value),xs[i]?=some x→rows[i]?=some r→R w r x
theorem zcq.lt {g N:Nat} (h:zcq R t m w g N xs):g<w.heap.size:=by
 obtain ⟨_,h,_⟩:=h
 exact h.lt
theorem zcq.at {g N B:Nat} (h:zcq R t m w g N xs) (hB:B≤g):zaD R (some B) t m w (some ⟨g,0,none⟩) xs:=by
 obtain ⟨rows,ho,hl,hR⟩:=h
 intro i x hx
 have hi:i<rows.length:=by rw [hl];exact (List.getElem?_eq_some_iff.1 hx).1
 have hr:rows[i]?=some rows[i]:=List.getElem?_eq_getElem hi
 obtain ⟨c,h1,h2,h3,h4⟩:=ho
 refine ⟨g,0,rows[i],rfl,?_,(h4 i _ hr).1,?_,hR i x _ hx hr⟩
 ·intro B' e
  injection e with e
  subst e
  exact ⟨hB,c,h1⟩
 ·intro j v hj
  rw [Nat.zero_add]
  exact OwnB.cell ⟨c,h1,h2,h3,h4⟩ hr hj
theorem zcq.below {g N:Nat} (h:zcq R t m w g N xs) (hR:∀ r x,x∈xs→R w r x→R w' r x) (hb:Below w.heap.size w w'):zcq R t m w' g N xs:=by
 obtain ⟨rows,ho,hl,h⟩:=h
 exact ⟨rows,ho.below hb ho.lt,hl,fun i x r hx hr=>hR r x (List.mem_of_getElem? hx) (h i x r hx hr)⟩
theorem zcq.room {g N k:Nat} (h:zcq R t m w g N xs) (hk:k<N) (j:Nat) (hj:j<m):∃ x,w.cell? ⟨g,k * m+j,none⟩=some x:=by
 obtain ⟨rows,ho,_⟩:=h
 exact ho.there hk hj
theorem zcq.put {g N k:Nat}{x:α}{r:List Value} (h:zcq R t m w g N xs) (hk:xs.length=k) (hN:k<N) (hr:r.length=m) (hx:R w r x)
  (hR:∀ s y,(y∈xs∨y=x)→R w s y→R (w.setCells g (k * m) r) s y):zcq R t m (w.setCells g (k * m) r) g N (xs ++ [x]):=by
 obtain ⟨rows,ho,hl,h⟩:=h
 refine ⟨rows ++ [r],?_,by simp [hl],?_⟩
 ·have:=ho.put r hr (by omega)
  rwa [show rows.length=k by omega] at this
 ·intro i y s hy hs
  by_cases hi:i<xs.length
  ·rw [List.getElem?_append_left hi] at hy
   rw [List.getElem?_append_left (by omega)] at hs
   exact hR _ _ (.inl (List.mem_of_getElem? hy)) (h i y s hy hs)
  ·have hil:i<(xs ++ [x]).length:=(List.getElem?_eq_some_iff.1 hy).1
   simp at hil
   obtain rfl:i=xs.length:=by omega
   simp at hy
   rw [List.getElem?_append_right (by omega)] at hs
   simp [hl] at hs
   subst hy hs
   exact hR _ _ (.inr rfl) hx
end
def zbu {α:Type} (le:Nat→α→Prop) (N:Nat) (xs:List α):Prop:=xs.length≤N∧∀ x∈xs,le N x
end Go.Proofs.YtmmdlgjmplddiaaGreat
namespace Go.Proofs.YtmmdlgjmplddiaaGreat
open Go.RowKit
end Go.Proofs.YtmmdlgjmplddiaaGreat
