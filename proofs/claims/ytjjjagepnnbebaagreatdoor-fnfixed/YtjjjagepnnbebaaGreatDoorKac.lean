/-
  OUR OWN TEXT. Val, Rd0, Gm, Ty, RdG, Chk, Blk, App, Sp10, Sp20, Bx, Ll, Tc, EqL, one behind the other.
-/
import Derived.Test.YtjjjagepnnbebaaGreatDoorKaa
import Derived.Deep.Slices
import Derived.Deep.Strs
import Derived.Lib.SmallJoins
import Derived.Deep.MidRow
import Derived.Deep.RegionLaw
import Derived.Maps.AppendAt
import Derived.Laws.OwnMore
import Derived.Deep.RegionHeld3
import Derived.Deep.DrawnRows
namespace Go.Proofs.YtjjjagepnnbebaaGreatDoor
def gVal(v:V):Bool:=(v.kind==0 && v.sym.toList.isEmpty) || (v.kind==1 && (v.num==0 && gSym v.sym.data.toList))
abbrev Lk:=ByteArray × List V
def like(f:F):Lk:=(f.cls,f.slots)
end Go.Proofs.YtjjjagepnnbebaaGreatDoor
namespace Go.Proofs.YtjjjagepnnbebaaGreatDoor
open Go.RowKit Go.Deep
theorem zog:laidOutB Tryz.prog=true:=by kernel_rfl
theorem ownK:ownKnob Tryz.prog.godebug=none:=by kernel_rfl
theorem zso:Tryz.prog.cellsOf 9=1:=by kernel_rfl
def VOk(v:V):Prop:=(Lit.int .i64 v.kind).wf=true/\(Lit.int .i64 v.num).wf=true/\v.sym.size<=maxLen
theorem zi9{α:Type}{f:Nat->α}{len i:Nat}{x:α}(h:((List.range len).map f)[i]?=some x):i<len/\f i=x:=by
 have hi:i<len:=by simpa using (List.getElem?_eq_some_iff.1 h).1
 simp[hi]at h;exact ⟨hi,h⟩
theorem znN{w:World}{b o:Nat}{sp:Option Nat}{n:Nat}{x y:Value}(E:w.cell? ((⟨b,o,sp⟩:Addr).add 0)=some x)(_h:w.cell? ((⟨b,o,sp⟩:Addr).add n)=some y):sp=none:=by
 have h1:=World.cell?_spot E;simpa[Addr.add] using h1
section
variable {H : Type} {enc : TypeId × Value -> H} {w : World} {base : Nat} {spare : Nat -> Bool} {held : Bool}
end
end Go.Proofs.YtjjjagepnnbebaaGreatDoor
namespace Go.Proofs.YtjjjagepnnbebaaGreatDoor
open Go.RowKit
def Qb(q:Option Nat)(w:World)(t:TypeId)(b:Nat):Prop:=∀ B,q=some B->B<=b/\∃ c,w.heap[b]?=some (.cells c t (0,0))
def Low(B:Nat)(w w':World):Prop:=∀ b,B<=b->w'.heap[b]?=w.heap[b]?
theorem Low.refl(B:Nat)(w:World):Low B w w:=fun _ _=>rfl
theorem Low.trans{B:Nat}{w w' E:World}(h:Low B w w')(G:Low B w' E):Low B w E:=fun b hb=>(G b hb).trans (h b hb)
theorem Low.setCell{B g i:Nat}{w:World}(hg:g<B)(x:Value):Low B w (w.setCell ⟨g,i,none⟩ x):=fun b hb=>Below.heap_setCell _ _ _ _ (by simp;omega)
theorem Low.setCells{B g:Nat}(hg:g<B):∀ (vs:List Value) (o:Nat) (w:World),Low B w (w.setCells g o vs)
 | [],_,_=>Low.refl _ _
 | v :: r,o,_=>(Low.setCell hg v).trans (Low.setCells hg r (o+1) _)
theorem Qb.bare(w:World)(t:TypeId)(b:Nat):Qb none w t b:=fun B h=>by cases h
theorem Qb.below{q:Option Nat}{w w':World}{t:TypeId}{b:Nat}(h:Qb q w t b)(hb:Below w.heap.size w w'):Qb q w' t b:=by
 cases q with
 | none=>exact Qb.bare _ _ _
 | some B=>
  intro E e;obtain ⟨h1,c,h2⟩:=h E e;exact ⟨h1,c,(hb.block b (zab h2)).trans h2⟩
section
variable {α : Type}
def zbf(R:World->List Value->α->Prop)(q:Option Nat)(t:TypeId)(m:Nat)(w:World)(a:Option Addr)(xs:List α):Prop:=
 ∀ (i:Nat) (x:α),xs[i]?=some x->∃ b o r,a=some ⟨b,o,none⟩/\Qb q w t b/\r.length=m/\(∀ j v,r[j]?=some v->w.cell? ⟨b,o+i * m+j,none⟩=some v)/\R w r x
variable {R R' : World -> List Value -> α -> Prop} {q q' : Option Nat} {t : TypeId} {m : Nat} {w w' : World} {a : Option Addr} {xs : List α}
theorem zbf.nil:zbf R q t m w a ([]:List α):=fun i x h=>by simp at h
theorem zbf.below(h:zbf R q t m w a xs)(G:∀ r x,x∈xs->R w r x->R w' r x)(hb:Below w.heap.size w w'):zbf R q t m w' a xs:=by
 intro i x hx;obtain ⟨b,o,r,h1,h2,h3,E,I⟩:=h i x hx;exact ⟨b,o,r,h1,h2.below hb,h3,fun j v hj=>zaa hb (E j v hj),G r x (List.mem_of_getElem? hx) I⟩
theorem zbf.take(h:zbf R q t m w a xs)(k:Nat):zbf R q t m w a (xs.take k):=by
 intro i x hx;rw[List.getElem?_take]at hx;split at hx
 ·exact h i x hx
 cases hx
def zcE(R:World->List Value->α->Prop)(t:TypeId)(m:Nat)(w:World)(g N:Nat)(xs:List α):Prop:=
 ∃ rows,OwnB w g t m N rows/\rows.length=xs.length/\∀ (i:Nat) (x:α) (r:List Value),xs[i]?=some x->rows[i]?=some r->R w r x
theorem zcE.lt{g N:Nat}(h:zcE R t m w g N xs):g<w.heap.size:=by
 obtain ⟨_,h,_⟩:=h;exact h.lt
theorem zcE.at{g N B:Nat}(h:zcE R t m w g N xs)(hB:B<=g):zbf R (some B) t m w (some ⟨g,0,none⟩) xs:=by
 obtain ⟨rows,ho,hl,G⟩:=h;intro i x hx;have hi:i<rows.length:=by rw[hl];exact (List.getElem?_eq_some_iff.1 hx).1
 have hr:rows[i]?=some rows[i]:=List.getElem?_eq_getElem hi;obtain ⟨c,h1,h2,h3,E⟩:=ho;refine ⟨g,0,rows[i],rfl,?_,(E i _ hr).1,?_,G i x _ hx hr⟩
 ·intro I e;injection e with e;subst e;exact ⟨hB,c,h1⟩
 intro j v hj;rw[Nat.zero_add];exact OwnB.cell ⟨c,h1,h2,h3,E⟩ hr hj
theorem zcE.start(z:Array Value)(N:Nat):zcE R t m (w.alloc (.cells (madeCells z (N * m)) t)) w.heap.size N ([]:List α):=
 ⟨[],OwnB.made _ _ _ _ _,rfl,fun i x r hx=>by simp at hx⟩
theorem zcE.below{g N:Nat}(h:zcE R t m w g N xs)(E:∀ r x,x∈xs->R w r x->R w' r x)(hb:Below w.heap.size w w'):zcE R t m w' g N xs:=by
 obtain ⟨rows,ho,hl,h⟩:=h;exact ⟨rows,ho.below hb ho.lt,hl,fun i x r hx hr=>E r x (List.mem_of_getElem? hx) (h i x r hx hr)⟩
theorem zcE.room{g N k:Nat}(h:zcE R t m w g N xs)(hk:k<N)(j:Nat)(hj:j<m):∃ x,w.cell? ⟨g,k * m+j,none⟩=some x:=by
 obtain ⟨rows,ho,_⟩:=h;exact ho.there hk hj
theorem zcE.put{g N k:Nat}{x:α}{r:List Value}(h:zcE R t m w g N xs)(hk:xs.length=k)(I:k<N)(hr:r.length=m)(hx:R w r x)
  (G:∀ s y,(y∈xs∨y=x)->R w s y->R (w.setCells g (k * m) r) s y):zcE R t m (w.setCells g (k * m) r) g N (xs ++ [x]):=by
 obtain ⟨rows,ho,hl,h⟩:=h;refine ⟨rows ++ [r],?_,by simp[hl],?_⟩
 ·have:=ho.put r hr (by omega)
  rwa [show rows.length=k by omega]at this
 intro i y s hy hs;by_cases hi:i<xs.length
 ·rw[List.getElem?_append_left hi]at hy;rw[List.getElem?_append_left (by omega)]at hs;exact G _ _ (.inl (List.mem_of_getElem? hy)) (h i y s hy hs)
 have E:i<(xs ++ [x]).length:=(List.getElem?_eq_some_iff.1 hy).1;simp at E;obtain rfl:i=xs.length:=by omega
 simp at hy;rw[List.getElem?_append_right (by omega)]at hs;simp[hl]at hs;subst hy hs;exact G _ _ (.inr rfl) hx
end
def zb3{α:Type}(le:Nat->α->Prop)(N:Nat)(xs:List α):Prop:=xs.length<=N/\∀ x∈xs,le N x
def intR(_:World)(r:List Value)(x:Int):Prop:=r=[.int .i64 x]
abbrev zbL(q:Option Nat)(w:World)(a:Option Addr)(xs:List Int):Prop:=zbf intR q 3 1 w a xs
theorem zbL.below{q:Option Nat}{w w':World}{a:Option Addr}{xs:List Int}(h:zbL q w a xs)(hb:Below w.heap.size w w'):zbL q w' a xs:=zbf.below h (fun _ _ _ h=>h) hb
theorem zbL.get{q:Option Nat}{w:World}{a:Option Addr}{xs:List Int}{i:Nat}{x:Int}(h:zbL q w a xs)(hi:xs[i]?=some x):∃ b o,a=some ⟨b,o,none⟩/\Qb q w 3 b/\w.cell? ⟨b,o+i,none⟩=some (.int .i64 x):=by
 obtain ⟨b,o,r,h1,h2,h3,E,G⟩:=h i x hi;subst G;exact ⟨b,o,h1,h2,by simpa using E 0 _ rfl⟩
structure Tm where
 kind:Int
 op:Int
 var:ByteArray
 val:V
def Tm.R(_:World)(r:List Value)(x:Tm):Prop:=r=[.int .i64 x.kind,.int .i64 x.op,.string x.var,.int .i64 x.val.kind,.int .i64 x.val.num,.string x.val.sym]
abbrev zfP(q:Option Nat)(w:World)(a:Option Addr)(xs:List Tm):Prop:=zbf Tm.R q 95 6 w a xs
theorem zfP.below{q:Option Nat}{w w':World}{a:Option Addr}{xs:List Tm}(h:zfP q w a xs)(hb:Below w.heap.size w w'):zfP q w' a xs:=zbf.below h (fun _ _ _ h=>h) hb
theorem zfP.get{q:Option Nat}{w:World}{a:Option Addr}{xs:List Tm}{i:Nat}{x:Tm}(h:zfP q w a xs)(hi:xs[i]?=some x):∃ b o,a=some ⟨b,o,none⟩/\Qb q w 95 b/\w.cell? ⟨b,o+i * 6,none⟩=some (.int .i64 x.kind)/\w.cell? ⟨b,o+i * 6+1,none⟩=some (.int .i64 x.op)/\w.cell? ⟨b,o+i * 6+2,none⟩=some (.string x.var)/\w.cell? ⟨b,o+i * 6+3,none⟩=some (.int .i64 x.val.kind)/\w.cell? ⟨b,o+i * 6+4,none⟩=some (.int .i64 x.val.num)/\w.cell? ⟨b,o+i * 6+5,none⟩=some (.string x.val.sym):=by
 obtain ⟨b,o,r,h1,h2,h3,E,G⟩:=h i x hi;subst G;exact ⟨b,o,h1,h2,E 0 _ rfl,E 1 _ rfl,E 2 _ rfl,E 3 _ rfl,E 4 _ rfl,E 5 _ rfl⟩
def Tm.le(N:Nat)(x:Tm):Prop:=x.var.size<=N/\x.val.sym.size<=N
structure Pt where
 neg:Bool
 cls:ByteArray
 terms:List Tm
def Pt.R(q:Option Nat)(w:World)(r:List Value)(x:Pt):Prop:=∃ a_terms c_terms,r=[.bool x.neg,.string x.cls,.slice a_terms x.terms.length c_terms]/\zfP q w a_terms x.terms/\x.terms.length<=c_terms
abbrev zdv(q:Option Nat)(w:World)(a:Option Addr)(xs:List Pt):Prop:=zbf (Pt.R q) q 78 3 w a xs
theorem zdv.below{q:Option Nat}{w w':World}{a:Option Addr}{xs:List Pt}(h:zdv q w a xs)(hb:Below w.heap.size w w'):zdv q w' a xs:=zbf.below h (fun _ _ _ ⟨a_terms,c_terms,e,E,G⟩=>⟨a_terms,c_terms,e,E.below hb,G⟩) hb
theorem zdv.get{q:Option Nat}{w:World}{a:Option Addr}{xs:List Pt}{i:Nat}{x:Pt}(h:zdv q w a xs)(hi:xs[i]?=some x):∃ b o a_terms c_terms,a=some ⟨b,o,none⟩/\Qb q w 78 b/\w.cell? ⟨b,o+i * 3,none⟩=some (.bool x.neg)/\w.cell? ⟨b,o+i * 3+1,none⟩=some (.string x.cls)/\w.cell? ⟨b,o+i * 3+2,none⟩=some (.slice a_terms x.terms.length c_terms)/\zfP q w a_terms x.terms:=by
 obtain ⟨b,o,r,h1,h2,h3,G,I⟩:=h i x hi;obtain ⟨a_terms,c_terms,rfl,E,_⟩:=I;exact ⟨b,o,a_terms,c_terms,h1,h2,G 0 _ rfl,G 1 _ rfl,G 2 _ rfl,E⟩
def Pt.le(N:Nat)(x:Pt):Prop:=x.cls.size<=N/\zb3 Tm.le N x.terms
structure Ex where
 kind:Int
 op:Int
 var:ByteArray
 val:V
 a:Int
 b:Int
def Ex.R(_:World)(r:List Value)(x:Ex):Prop:=r=[.int .i64 x.kind,.int .u8 x.op,.string x.var,.int .i64 x.val.kind,.int .i64 x.val.num,.string x.val.sym,.int .i64 x.a,.int .i64 x.b]
abbrev zbG(q:Option Nat)(w:World)(a:Option Addr)(xs:List Ex):Prop:=zbf Ex.R q 97 8 w a xs
theorem zbG.below{q:Option Nat}{w w':World}{a:Option Addr}{xs:List Ex}(h:zbG q w a xs)(hb:Below w.heap.size w w'):zbG q w' a xs:=zbf.below h (fun _ _ _ h=>h) hb
theorem zbG.get{q:Option Nat}{w:World}{a:Option Addr}{xs:List Ex}{i:Nat}{x:Ex}(h:zbG q w a xs)(hi:xs[i]?=some x):∃ b o,a=some ⟨b,o,none⟩/\Qb q w 97 b/\w.cell? ⟨b,o+i * 8,none⟩=some (.int .i64 x.kind)/\w.cell? ⟨b,o+i * 8+1,none⟩=some (.int .u8 x.op)/\w.cell? ⟨b,o+i * 8+2,none⟩=some (.string x.var)/\w.cell? ⟨b,o+i * 8+3,none⟩=some (.int .i64 x.val.kind)/\w.cell? ⟨b,o+i * 8+4,none⟩=some (.int .i64 x.val.num)/\w.cell? ⟨b,o+i * 8+5,none⟩=some (.string x.val.sym)/\w.cell? ⟨b,o+i * 8+6,none⟩=some (.int .i64 x.a)/\w.cell? ⟨b,o+i * 8+7,none⟩=some (.int .i64 x.b):=by
 obtain ⟨b,o,r,h1,h2,h3,E,G⟩:=h i x hi;subst G;exact ⟨b,o,h1,h2,E 0 _ rfl,E 1 _ rfl,E 2 _ rfl,E 3 _ rfl,E 4 _ rfl,E 5 _ rfl,E 6 _ rfl,E 7 _ rfl⟩
def Ex.le(N:Nat)(x:Ex):Prop:=x.var.size<=N/\x.val.sym.size<=N
structure Ac where
 kind:Int
 k:Int
 cls:ByteArray
 args:List Int
def Ac.R(q:Option Nat)(w:World)(r:List Value)(x:Ac):Prop:=∃ a_args c_args,r=[.int .i64 x.kind,.int .i64 x.k,.string x.cls,.slice a_args x.args.length c_args]/\zbL q w a_args x.args
abbrev zdY(q:Option Nat)(w:World)(a:Option Addr)(xs:List Ac):Prop:=zbf (Ac.R q) q 73 4 w a xs
theorem zdY.below{q:Option Nat}{w w':World}{a:Option Addr}{xs:List Ac}(h:zdY q w a xs)(hb:Below w.heap.size w w'):zdY q w' a xs:=zbf.below h (fun _ _ _ ⟨a_args,c_args,e,E⟩=>⟨a_args,c_args,e,E.below hb⟩) hb
theorem zdY.get{q:Option Nat}{w:World}{a:Option Addr}{xs:List Ac}{i:Nat}{x:Ac}(h:zdY q w a xs)(hi:xs[i]?=some x):∃ b o a_args c_args,a=some ⟨b,o,none⟩/\Qb q w 73 b/\w.cell? ⟨b,o+i * 4,none⟩=some (.int .i64 x.kind)/\w.cell? ⟨b,o+i * 4+1,none⟩=some (.int .i64 x.k)/\w.cell? ⟨b,o+i * 4+2,none⟩=some (.string x.cls)/\w.cell? ⟨b,o+i * 4+3,none⟩=some (.slice a_args x.args.length c_args)/\zbL q w a_args x.args:=by
 obtain ⟨b,o,r,h1,h2,h3,G,I⟩:=h i x hi;obtain ⟨a_args,c_args,rfl,E⟩:=I;exact ⟨b,o,a_args,c_args,h1,h2,G 0 _ rfl,G 1 _ rfl,G 2 _ rfl,G 3 _ rfl,E⟩
def Ac.le(N:Nat)(x:Ac):Prop:=x.cls.size<=N/\x.args.length<=N
structure Ru where
 name:ByteArray
 sal:Int
 pats:List Pt
 exprs:List Ex
 acts:List Ac
def Ru.R(q:Option Nat)(w:World)(r:List Value)(x:Ru):Prop:=∃ a_pats c_pats a_exprs c_exprs a_acts c_acts,r=[.string x.name,.int .i64 x.sal,.slice a_pats x.pats.length c_pats,.slice a_exprs x.exprs.length c_exprs,.slice a_acts x.acts.length c_acts]/\zdv q w a_pats x.pats/\zbG q w a_exprs x.exprs/\zdY q w a_acts x.acts/\x.exprs.length<=c_exprs
abbrev zdD(q:Option Nat)(w:World)(a:Option Addr)(xs:List Ru):Prop:=zbf (Ru.R q) q 39 5 w a xs
theorem zdD.below{q:Option Nat}{w w':World}{a:Option Addr}{xs:List Ru}(h:zdD q w a xs)(hb:Below w.heap.size w w'):zdD q w' a xs:=zbf.below h (fun _ _ _ ⟨a_pats,c_pats,a_exprs,c_exprs,a_acts,c_acts,e,O,G,I,E⟩=>⟨a_pats,c_pats,a_exprs,c_exprs,a_acts,c_acts,e,O.below hb,G.below hb,I.below hb,E⟩) hb
theorem zdD.get{q:Option Nat}{w:World}{a:Option Addr}{xs:List Ru}{i:Nat}{x:Ru}(h:zdD q w a xs)(hi:xs[i]?=some x):∃ b o a_pats c_pats a_exprs c_exprs a_acts c_acts,a=some ⟨b,o,none⟩/\Qb q w 39 b/\w.cell? ⟨b,o+i * 5,none⟩=some (.string x.name)/\w.cell? ⟨b,o+i * 5+1,none⟩=some (.int .i64 x.sal)/\w.cell? ⟨b,o+i * 5+2,none⟩=some (.slice a_pats x.pats.length c_pats)/\w.cell? ⟨b,o+i * 5+3,none⟩=some (.slice a_exprs x.exprs.length c_exprs)/\w.cell? ⟨b,o+i * 5+4,none⟩=some (.slice a_acts x.acts.length c_acts)/\zdv q w a_pats x.pats/\zbG q w a_exprs x.exprs/\zdY q w a_acts x.acts/\x.exprs.length<=c_exprs:=by
 obtain ⟨b,o,r,h1,h2,h3,U,X⟩:=h i x hi;obtain ⟨a_pats,c_pats,a_exprs,c_exprs,a_acts,c_acts,rfl,O,G,I,E⟩:=X;exact ⟨b,o,a_pats,c_pats,a_exprs,c_exprs,a_acts,c_acts,h1,h2,U 0 _ rfl,U 1 _ rfl,U 2 _ rfl,U 3 _ rfl,U 4 _ rfl,O,G,I,E⟩
def Ru.le(N:Nat)(x:Ru):Prop:=x.name.size<=N/\zb3 Pt.le N x.pats/\zb3 Ex.le N x.exprs/\zb3 Ac.le N x.acts
end Go.Proofs.YtjjjagepnnbebaaGreatDoor
namespace Go.Proofs.YtjjjagepnnbebaaGreatDoor
open Go.RowKit Go.Deep
section
variable {H : Type} {enc : TypeId × Value -> H} {w : World} {base : Nat} {spare : Nat -> Bool} {held : Bool}
theorem zqN{α:Type}(d:α){R:World->List Value->α->Prop}{Ok:α->Prop}(t e T:TypeId)(m:Nat)(ht:Tryz.prog.underlying t=some (.slice e))(ce:Tryz.prog.cellsOf e=m)(ak:0<m)
  (each:∀ (n:Nat) (cs:List Value) (x:DataW H × List MemPlace),DataW.trod enc Tryz.prog w base spare held n e cs=some x->cs.length=m->∃ v:α,R w cs v/\Ok v)
  {n:Nat}{cs:List Value}{x:DataW H × List MemPlace} (h:DataW.trod enc Tryz.prog w base spare held n t cs=some x) :
  ∃ a c,∃ vs:List α,cs=[.slice a vs.length c]/\zbf R none T m w a vs/\vs.length<=c/\vs.length<=maxLen/\∀ v∈vs,Ok v:=by
 rcases open_slice ht h with ⟨rfl,_⟩ | ⟨a,len,cap,mm,k,D,Pl,rfl,_,hl,hm,ab,_,hx⟩
 ·exact ⟨none,0,[],rfl,zbf.nil,Nat.zero_le _,Nat.zero_le _,fun v hv=>by simp at hv⟩
 have aj:len<=mm:=by rw[ab];split <;> omega
 have one:∀ i,i<len->∃ v:α,(∃ r,r.length=m/\(∀ j u,r[j]?=some u->w.cell? (a.add (i * m+j))=some u)/\R w r v)/\Ok v:=by
  intro i hi;obtain ⟨X,h1,h2⟩:=hx i (by omega);rw[ce]at h1;obtain ⟨_,E,G⟩:=World.cells?_some h1;obtain ⟨v,Z,hO⟩:=each _ _ _ h2 E;refine ⟨v,⟨X,E,fun j u hj=>?_,Z⟩,hO⟩;have U:j<m:=by rw[<- E];exact (List.getElem?_eq_some_iff.1 hj).1
  have:=G j U;rw[add_add]at this;rw[this,hj]
 have:Nonempty (Inhabited α):=⟨⟨d⟩⟩
 obtain ⟨ah⟩:=this;obtain ⟨f,hf⟩:=choose_lt one;refine ⟨some a,cap,(List.range len).map f,by simp,?_,by simp;omega,by simp;omega,?_⟩
 ·intro i v hv;obtain ⟨O,rfl⟩:=zi9 hv;obtain ⟨⟨r,hr,hc,Z⟩,_⟩:=hf i O;obtain ⟨b,o,sp⟩:=a;obtain ⟨⟨r0,ag,ae,_⟩,_⟩:=hf 0 (by omega);obtain ⟨u0,I⟩:∃ u,r0[0]?=some u:=⟨r0[0]'(by omega),by simp⟩
  obtain ⟨u1,af⟩:∃ u,r[0]?=some u:=⟨r[0]'(by omega),by simp⟩
  have ad:sp=none:=znN (by simpa using ae 0 u0 I) (hc 0 u1 af);subst ad;refine ⟨b,o,r,rfl,Qb.bare _ _ _,hr,fun j u hj=>?_,Z⟩;have:=hc j u hj;rw[Addr.add_mid]at this
  rwa [Nat.add_assoc]
 intro v hv;obtain ⟨i,hi,rfl⟩:=List.mem_map.1 hv;exact (hf i (List.mem_range.1 hi)).2
end
end Go.Proofs.YtjjjagepnnbebaaGreatDoor
namespace Go.Proofs.YtjjjagepnnbebaaGreatDoor
def isE(s:ByteArray):Bool:=s.toList.isEmpty
def zbm(v:V):Bool:=v.kind==0 && (v.num==0 && isE v.sym)
def zbo(t:Tm):Bool:=(isE t.var && gVal t.val) || (gSym t.var.data.toList && zbm t.val)
def gTm(t:Tm):Bool:=
 if t.kind==0 then t.op==0 && (isE t.var && zbm t.val)
 else if t.kind==1 then t.op==0 && (isE t.var && gVal t.val)
 else if t.kind==2 then t.op==0 && (gSym t.var.data.toList && zbm t.val)
 else if t.kind==3 then decide (1<=t.op) && (decide (t.op<=6) && zbo t)
 else false
def notB:ByteArray:=⟨#[110,111,116]⟩
def gCls(s:ByteArray):Bool:=gSym s.data.toList && !(decide (s=notB))
def gPt(p:Pt):Bool:=gCls p.cls && (decide (p.terms.length<=6) && p.terms.all gTm)
def zaI{α:Type}(f:α->Bool):List α->Nat->Option Nat
 | [],_=>none
 | x :: r,k=>if f x then zaI f r (k+1) else some k
abbrev Sp:=Nat × Nat
def isAr(op:Int):Bool:=op==43 || (op==45 || (op==42 || (op==47 || op==37)))
def zaZ(e:Ex):Bool:=e.op==0 && (e.a==0 && e.b==0)
def zdq(S:List Sp)(a b:Int):Option Sp:=
 match S[b.toNat]?,S[a.toNat]? with
 | some sb,some sa=>if decide (a=(sb.1:Int) - 1) && decide (1+max sa.2 sb.2<=20) then some (sa.1,1+max sa.2 sb.2) else none
 | _,_=>none
def opOk(S:List Sp)(e:Ex):Bool:=isAr e.op && (isE e.var && (zbm e.val && (decide (e.b=(S.length:Int) - 1) && (decide (0<=e.b) && decide (0<=e.a)))))
def zaJ(S:List Sp)(e:Ex):Option Sp:=
 if e.kind==0 then (if zaZ e && (isE e.var && gVal e.val) then some (S.length,0) else none)
 else if e.kind==1 then (if zaZ e && (gSym e.var.data.toList && zbm e.val) then some (S.length,0) else none)
 else if e.kind==2 then (if opOk S e then zdq S e.a e.b else none)
 else none
def zat:List Sp->List Ex->List Sp
 | S,[]=>S
 | S,e :: r=>match zaJ S e with
  | none=>S
  | some s=>zat (S ++ [s]) r
def zaT(S:List Sp):List Int->Nat->Option Nat
 | [],nx=>some nx
 | x :: r,nx=>if decide (0<=x) && (decide (x<(S.length:Int)) && decide ((S[x.toNat]?.getD (0,0)).1=nx)) then zaT S r (x.toNat+1) else none
def kOk(k:Int):Bool:=decide (-1000000<=k) && decide (k<=1000000)
def zav(a:Ac):Bool:=
 if a.kind==1 then gCls a.cls && a.k==0
 else if a.kind==2 then (isE a.cls && kOk a.k) && a.args.isEmpty
 else if a.kind==3 then isE a.cls && kOk a.k
 else if a.kind==4 then isE a.cls && (a.k==0 && a.args.isEmpty)
 else false
def gAc(S:List Sp)(a:Ac)(nx:Nat):Option Nat:=if zav a && decide (a.args.length<=6) then zaT S a.args nx else none
def zbP(S:List Sp):List Ac->Nat->Nat->Option Nat
 | [],nx,k=>if nx=S.length then none else some k
 | a :: r,nx,k=>match gAc S a nx with
  | none=>some k
  | some nx'=>zbP S r nx' (k+1)
def zck(r:Ru):Bool:=gSym r.name.data.toList && (decide (r.pats.length<=6) && (decide (r.acts.length<=8) && decide (r.exprs.length<=60)))
def shape(r:Ru):Option Nat:=
 if zck r then
  match zaI gPt r.pats 1 with
  | some i=>some i
  | none=>if (zat [] r.exprs).length<r.exprs.length then some ((zat [] r.exprs).length+1) else zbP (zat [] r.exprs) r.acts 0 1
 else some 0
def pos1(p:Pt):Bool:=!p.neg
def positives(ps:List Pt):Nat:=ps.countP pos1
def memB(s:ByteArray)(l:List ByteArray):Bool:=l.any fun x=>decide (x=s)
def asks(t:Tm):Bool:=t.kind==3 && !isE t.var
def zaz:List Tm->List ByteArray->Option (List ByteArray)
 | [],here=>some here
 | t :: r,here=>if asks t && !memB t.var here then none else zaz r (if t.kind==2 then here ++ [t.var] else here)
def zbO:List Pt->List ByteArray->Nat->Nat ⊕ List ByteArray
 | [],known,_=>.inr known
 | p :: r,known,k=>match zaz p.terms known with
  | none=>.inl k
  | some here=>zbO r (if p.neg then known else here) (k+1)
def zbD(known:List ByteArray)(e:Ex):Bool:=!(e.kind==1) || memB e.var known
def upTo(a:Ac):Nat:=match a.args.getLast? with | none=>0 | some l=>l.toNat+1
def zcx(es:List Ex)(known:List ByteArray)(a:Ac):Bool:=a.args.isEmpty || (es.take (upTo a)).all (zbD known)
def scope(r:Ru):Option Nat:=
 match zbO r.pats [] 1 with
 | .inl i=>some i
 | .inr known=>zaI (zcx r.exprs known) r.acts (r.pats.length+1)
def zbI(most:Nat)(a:Ac):Bool:=!((a.kind==2 || a.kind==3) && !(decide (1<=a.k) && decide (a.k<=(most:Int))))
def refs(r:Ru):Option Nat:=zaI (zbI (positives r.pats)) r.acts (r.pats.length+1)
def chk1(pre:List Ru)(r:Ru):Int × Int:=
 match shape r with
 | some i=>(1,i)
 | none=>if pre.any (fun o=>decide (o.name=r.name)) then (2,0)
  else if 1<=positives r.pats/\positives r.pats<=3 then
   match scope r with
   | some i=>(4,i)
   | none=>match refs r with
    | some i=>(5,i)
    | none=>(0,0)
  else (3,0)
def zd1:List Ru->List Ru->Nat->Int × Int × Int
 | _,[],_=>(0,0,0)
 | pre,r :: s,k=>if (chk1 pre r).1=0 then zd1 (pre ++ [r]) s (k+1) else ((chk1 pre r).1,k,(chk1 pre r).2)
def chk(rs:List Ru):Int × Int × Int:=if rs.length<=16 then zd1 [] rs 0 else (1,0,0)
def Spans(es:List Ex)(S:List Sp):Prop:=S.length<=es.length/\∀ (i:Nat) (s:Sp) (e:Ex),S[i]?=some s->es[i]?=some e->zaJ (S.take i) e=some s
theorem Spans.nil(es:List Ex):Spans es []:=⟨Nat.zero_le _,fun i s e h=>by simp at h⟩
theorem Spans.snoc{es:List Ex}{S:List Sp}{e:Ex}{s:Sp}(h:Spans es S)(he:es[S.length]?=some e)(hs:zaJ S e=some s):Spans es (S ++ [s]):=by
 refine ⟨by have:=(List.getElem?_eq_some_iff.1 he).1;simp;omega,fun i s' O hi E=>?_⟩;by_cases I:i<S.length
 ·rw[List.getElem?_append_left I]at hi;rw[List.take_append_of_le_length (by omega)];exact h.2 i s' O hi E
 have G:i<(S ++ [s]).length:=(List.getElem?_eq_some_iff.1 hi).1;simp at G;obtain rfl:i=S.length:=by omega
 simp at hi;subst hi;rw[he]at E;injection E with E;subst E;rw[List.take_append_of_le_length (Nat.le_refl _),List.take_length];exact hs
theorem zb0{es:List Ex}:∀ {l:List Ex}{S:List Sp},Spans es S->es.drop S.length=l->Spans es (zat S l)/\S.length<=(zat S l).length
 | [],S,h,_=>⟨h,Nat.le_refl _⟩
 | e :: r,S,h,hd=>by
  have he:es[S.length]?=some e:=by
   have:=List.getElem?_drop (xs:=es) (i:=S.length) (j:=0);rw[hd]at this;simpa using this.symm
  unfold zat;split
  ·exact ⟨h,Nat.le_refl _⟩
  rename_i s hs;have E:es.drop (S ++ [s]).length=r:=by
   rw[List.length_append,<- List.drop_drop,hd];rfl
  have:=zb0 (h.snoc he hs) E;exact ⟨this.1,by have:=this.2;simp at this;omega⟩
theorem Spans.op{es:List Ex}{S:List Sp}(h:Spans es S){i:Nat}{s:Sp}{e:Ex}(hi:S[i]?=some s)(he:es[i]?=some e)(hk:e.kind=2) :
  ∃ (a b:Nat) (sa sb:Sp),e.a=(a:Int)/\e.b=(b:Int)/\b+1=i/\a<b+1/\S[a]?=some sa/\S[b]?=some sb/\s=(sa.1,1+max sa.2 sb.2):=by
 have:=h.2 i s e hi he;unfold zaJ at this;simp only[hk]at this;rw[if_neg (by decide),if_neg (by decide),if_pos (by decide)]at this;split at this
 ·rename_i ho;simp only[opOk,Bool.and_eq_true,decide_eq_true_eq]at ho;obtain ⟨_,_,_,hb,O,U⟩:=ho;have X:i<S.length:=(List.getElem?_eq_some_iff.1 hi).1;have G:(S.take i).length=i:=by simp;omega
  rw[G]at hb;obtain ⟨b,E⟩:=Int.eq_ofNat_of_zero_le O;obtain ⟨a,I⟩:=Int.eq_ofNat_of_zero_le U;unfold zdq at this;rw[E,I]at this;simp only[Int.toNat_natCast]at this;split at this
  ·rename_i sb sa e1 e2;rw[List.getElem?_take]at e1 e2;split at e1
   ·split at e2
    ·split at this
     ·injection this with this;exact ⟨a,b,sa,sb,I,E,by omega,by omega,e2,e1,this.symm⟩
     cases this
    ·cases e2
   cases e1
  ·cases this
 cases this
theorem Spans.leaf{es:List Ex}{S:List Sp}(h:Spans es S){i:Nat}{s:Sp}{e:Ex}(hi:S[i]?=some s)(he:es[i]?=some e)(hk:e.kind≠2):s=(i,0):=by
 have:=h.2 i s e hi he;have I:i<S.length:=(List.getElem?_eq_some_iff.1 hi).1;have E:(S.take i).length=i:=by simp;omega
 unfold zaJ at this;have G:(e.kind==2)=false:=by simpa using hk
 rw[G,E]at this;split at this
 ·split at this
  ·injection this with this;exact this.symm
  cases this
 split at this
 ·split at this
  ·injection this with this;exact this.symm
  cases this
 simp at this
theorem Spans.depth_le{es:List Ex}{S:List Sp}(h:Spans es S)(i:Nat)(s:Sp)(hi:S[i]?=some s):s.2<=20:=by
 have I:i<S.length:=(List.getElem?_eq_some_iff.1 hi).1;have G:=h.1;obtain ⟨e,he⟩:∃ e,es[i]?=some e:=⟨es[i]'(by omega),by simp⟩
 by_cases hk:e.kind=2
 ·have:=h.2 i s e hi he;unfold zaJ at this;simp only[hk]at this;rw[if_neg (by decide),if_neg (by decide),if_pos (by decide)]at this;split at this
  ·unfold zdq at this;split at this
   ·split at this
    ·rename_i E;injection this with this;simp only[Bool.and_eq_true,decide_eq_true_eq]at E;rw[<- this];exact E.2
    cases this
   ·cases this
  cases this
 rw[h.leaf hi he hk];exact Nat.zero_le _
theorem Spans.first_le{es:List Ex}{S:List Sp}(h:Spans es S):∀ (i:Nat) (s:Sp),S[i]?=some s->s.1<=i:=by
 intro i
 induction i using Nat.strongRecOn with
 | _ i I=>
  intro s hi;have G:i<S.length:=(List.getElem?_eq_some_iff.1 hi).1;have E:=h.1;obtain ⟨e,he⟩:∃ e,es[i]?=some e:=⟨es[i]'(by omega),by simp⟩
  by_cases hk:e.kind=2
  ·obtain ⟨a,b,sa,sb,_,_,h1,h2,h3,O,rfl⟩:=h.op hi he hk;have:=I a (by omega) sa h3;simp;omega
  rw[h.leaf hi he hk];exact Nat.le_refl _
end Go.Proofs.YtjjjagepnnbebaaGreatDoor
namespace Go.Proofs.YtjjjagepnnbebaaGreatDoor
open Go.RowKit
structure Turned (w w':World) (b:Nat):Prop where
 os:w'.os=w.os
 tape:w'.tape=w.tape
 output:w'.output=w.output
 size:w'.heap.size=w.heap.size
 block:∀ k,k≠b->w'.heap[k]?=w.heap[k]?
theorem Turned.setCells:∀ (vs:List Value) (o:Nat) (w:World) (b:Nat),Turned w (w.setCells b o vs) b
 | [],_,_,_=>⟨rfl,rfl,rfl,rfl,fun _ _=>rfl⟩
 | v :: r,o,w,b=>by
  have h:=Turned.setCells r (o+1) (w.setCell ⟨b,o,none⟩ v) b
  exact ⟨h.os,h.tape,h.output,h.size.trans (by simp[World.setCell]),fun k hk=>(h.block k hk).trans (Below.heap_setCell _ _ _ _ hk)⟩
theorem Turned.below{w w':World}{b B:Nat}(h:Turned w w' b)(hB:B<=b):Below B w w':=
 ⟨h.os,h.tape,h.output,Nat.le_of_eq h.size.symm,fun k hk=>h.block k (by omega)⟩
theorem Turned.cell{w w':World}{b:Nat}(h:Turned w w' b){p:Addr}(hp:p.block≠b):w'.cell? p=w.cell? p:=World.cell?_of_block (w:=w) (h.block _ hp)
theorem za0{w:World}{g o:Nat}{c:Array Value}{t:TypeId}{E:Nat × Nat}(h:w.heap[g]?=some (.cells c t E))(vs:List Value)(I:o+vs.length<=c.size) :
  (w.setCells g o vs).heap[g]?=some (.cells (c.toList.take o ++ (vs ++ c.toList.drop (o+vs.length))).toArray t E):=by
 obtain ⟨c',h1,h2,h3,G⟩:=zcF vs o w g c t E h;rw[h1];congr 2;apply Array.ext';apply List.ext_getElem?;intro i;rw[Array.getElem?_toList];by_cases hi:i<o
 ·rw[G i (Or.inl hi)];simp only[List.getElem?_append,List.length_take,Array.length_toList,List.getElem?_take];rw[if_pos (by omega),if_pos hi,Array.getElem?_toList]
 by_cases hj:i<o+vs.length
 ·have hx:vs[i - o]?=some (vs[i - o]'(by omega)):=List.getElem?_eq_getElem _;have:=h3 (i - o) _ hx (by omega);rw[show o+(i - o)=i by omega]at this;rw[this];simp only[List.getElem?_append,List.length_take,Array.length_toList];rw[if_neg (by omega),if_pos (by omega),show i - min o c.size=i - o by omega,hx]
 rw[G i (Or.inr (by omega))];simp only[List.getElem?_append,List.length_take,Array.length_toList,List.getElem?_drop];rw[if_neg (by omega),if_neg (by omega),show o+vs.length+(i - min o c.size - vs.length)=i by omega,Array.getElem?_toList]
theorem ze7{w:World}{b:Nat}{c:Array Value}{t:TypeId}(h:w.heap[b]?=some (.cells c t (0,0))){o n:Nat}(hn:o+n<=c.size):w.there b o n:=fun j hj=>by
 have E:o+j<c.size:=by omega
 simp[World.cell?,World.frozen?,h,E]
theorem zal{w:World}{b:Nat}{c:List Value}{t:TypeId}{E:Nat × Nat}(h:w.heap[b]?=some (.cells c.toArray t E)):w.rangeAt b 0 c:=fun j v hv=>by
 simp[World.cell?,h,hv]
theorem zac{P:Program}{ops:Array Oper}{rest:List Oper}{op:Oper}{a:Act}{w:World}{Q:Exit->Act->World->Prop}(E:op.guard=none)(G:TypeId)(x y:Operand)(ho:op.op=.store G x y)
  (b:Nat) (L:List Value) (hx:a.eval x=.pointer (some ⟨b,0,none⟩)) (hy:a.eval y=.agg L.toArray) (c:Array Value) (t:TypeId) (hb:w.heap[b]?=some (.cells c t (0,0)))
  (hs:c.size=L.length) (hi:(P.info? G).map (·.size)=some L.length) (h1:∀ v∈L,v.oneCell'=true)
  (h:∀ w',Hid (w'.heap[b]?=some (.cells L.toArray t (0,0)))->Hid (Turned w w' b)->wpList P ops Q rest (a.put op.dst undef) w'):wpList P ops Q (op :: rest) a w:=by
 refine wpList_store_mid E G x y ho b 0 L.toArray hx hy (ze7 hb (by simp;omega)) (by simpa using hi) (all_oneCell_toArray h1) (h _ ?_ (Turned.setCells _ _ _ _));show _=_;have:=za0 hb (o:=0) L (by omega);rw[this];simp[List.drop_eq_nil_of_le (show c.toList.length<=L.length by simp;omega)]
theorem zam{P:Program}{ops:Array Oper}{rest:List Oper}{op:Oper}{a:Act}{w:World}{Q:Exit->Act->World->Prop}(G:op.guard=none)(E:TypeId)(x:Operand)(ho:op.op=.load E x)
  (b:Nat) (L:List Value) (hx:a.eval x=.pointer (some ⟨b,0,none⟩)) (t:TypeId) (I:Nat × Nat) (hb:w.heap[b]?=some (.cells L.toArray t I)) (d:TypeDesc)
  (O:P.underlying E=some d) (hd:d.isRow=true) (hi:(P.info? E).map (·.size)=some L.length)
  (h:wpList P ops Q rest (a.put op.dst (.agg L.toArray)) w):wpList P ops Q (op :: rest) a w:=
 wpList_load_mid G E x ho b 0 hx L d (zal hb) O hd hi h
theorem ze3{P:Program}{w:World}(base:Nat)(t G e:TypeId)(i:TypeInfo)(size:Nat)(ht:P.underlying t=some (.slice e))(hi:P.info? e=some i)
  (v:Value) (n:Nat) (xs:List Value) (hown:w.ownsRow base e size v n xs) (c:Nat) :
  (Builtin.append_ #[t,t] G #[v,.slice none 0 c]).run P w=.ok v w:=by
 rcases hown.2 with ⟨rfl,rfl⟩ | ⟨g,cap,cur,rfl,_,_,E,_⟩
 ·simp[Builtin.append_,run_underlying ht,sizeOf,typeInfo,hi,Builtin.lenOf,Builtin.firstCells]
 simp[Builtin.append_,run_underlying ht,sizeOf,typeInfo,hi,Builtin.lenOf,Builtin.firstCells,E,storeCells]
theorem zhy{P:Program}(w:World)(base:Nat)(t X e:TypeId)(z:Value)(size bytes:Nat)(ht:P.underlying t=some (.slice e))(hinfo:(P.info? e).map (fun i=>(i.zero,i.size,i.bytes))=some (some z,size,bytes))
  (hzs:z.cells.size=size) (hsz:0<size) (v:Value) (n:Nat) (xs:List Value) (hown:w.ownsRow base e size v n xs)
  (sp:Option Addr) (m c:Nat) (news:List Value) (hl:news.length=m * size) (hnil:sp=none->m=0) (hnews:∀ a,sp=some a->∀ j u,news[j]?=some u->w.cell? (a.add j)=some u) (h1:∀ u∈news,u.oneCell'=true)
  (h63:n+m<=maxLen) (hbytes:(n+m) * bytes<=140737488355328) (hbase:base<=w.heap.size) :
  ∃ a' c' w',(Builtin.append_ #[t,t] X #[v,.slice sp m c]).run P w=.ok (.slice a' (n+m) c') w'/\w'.ownsRow base e size (.slice a' (n+m) c') (n+m) (xs ++ news)/\w.grownBy w' v.ownBlock /\
   ((Value.slice a' (n+m) c').ownBlock=v.ownBlock∨(Value.slice a' (n+m) c').ownBlock=some w.heap.size):=by
 obtain ⟨i,hi,U,I,O⟩:=info_parts hinfo
 cases sp with
 | none=>
  obtain rfl:=hnil rfl;have hr:=ze3 (P:=P) (w:=w) base t X e i size ht hi v n xs hown c;have G:news=[]:=List.eq_nil_of_length_eq_zero (by simpa using hl);subst G;have E:∃ a' c',v=.slice a' n c':=by
   rcases hown.2 with ⟨rfl,rfl⟩ | ⟨g,cap,cur,rfl,_⟩
   ·exact ⟨none,0,rfl⟩
   exact ⟨_,_,rfl⟩
  obtain ⟨a',c',rfl⟩:=E;exact ⟨a',c',w,hr,by simpa using hown,⟨rfl,rfl,rfl,Nat.le_refl _,fun _ _ _=>rfl⟩,.inl rfl⟩
 | some a=>
  obtain ⟨v',w',hr,h2,h3,_,Z⟩:=run_append_own_at (P:=P) w base t X e i z size bytes ht hi U I O hzs hsz v n xs hown a m c news hl (hnews a rfl) h1 h63 hbytes hbase;have E:∃ a' c',v'=.slice a' (n+m) c':=by
   rcases h2.2 with ⟨rfl,h0⟩ | ⟨g,cap,cur,rfl,_⟩
   ·exact ⟨none,0,by rw[h0]⟩
   exact ⟨_,_,rfl⟩
  obtain ⟨a',c',rfl⟩:=E;exact ⟨a',c',w',hr,h2,h3,Z⟩
theorem zfd{P:Program}{w:World}{o:Oper}{a:Act}{K:Act->World->Prop}{Q:Exit->Act->World->Prop}(s x:Operand)(t:TypeId)
  (ho:o.op=.call { callee:=.builtin .append,args:=#[s,x],argTypes:=#[t,t] })
  (base:Nat) (e:TypeId) (z:Value) (size bytes:Nat) (ht:P.underlying t=some (.slice e)) (hinfo:(P.info? e).map (fun i=>(i.zero,i.size,i.bytes))=some (some z,size,bytes))
  (hzs:z.cells.size=size) (hsz:0<size) (v:Value) (n:Nat) (xs:List Value) (hs:a.eval s=v) (hown:w.ownsRow base e size v n xs)
  (sp:Option Addr) (m c:Nat) (hx:a.eval x=.slice sp m c) (news:List Value) (hl:news.length=m * size) (hnil:sp=none->m=0) (hnews:∀ a,sp=some a->∀ j u,news[j]?=some u->w.cell? (a.add j)=some u) (h1:∀ u∈news,u.oneCell'=true)
  (h63:n+m<=maxLen) (hbytes:(n+m) * bytes<=140737488355328) (hbase:base<=w.heap.size)
  (h:∀ a' c' w',Hid (w'.ownsRow base e size (.slice a' (n+m) c') (n+m) (xs ++ news))->Hid (w.grownBy w' v.ownBlock)->Hid ((Value.slice a' (n+m) c').ownBlock=v.ownBlock∨(Value.slice a' (n+m) c').ownBlock=some w.heap.size)->K (a.put o.dst (.slice a' (n+m) c')) w'):o.wp P a w K Q:=by
 obtain ⟨a',c',w',hr,h2,h3,E⟩:=zhy (P:=P) w base t o.type e z size bytes ht hinfo hzs hsz v n xs hown sp m c news hl hnil hnews h1 h63 hbytes hbase;unfold Oper.wp execOp;simp only[ho,resolve,invoke,builtin,Sem.run_bind,Sem.run_pure,Result.andThen_ok,List.map_toArray,List.map_cons,List.map_nil,hs,hx,hr];exact h a' c' w' h2 h3 E
theorem zag{P:Program}{w:World}{ops:Array Oper}{rest:List Oper}{o:Oper}{a:Act}{Q:Exit->Act->World->Prop}(E:o.guard=none)(s x:Operand)(t:TypeId)
  (ho:o.op=.call { callee:=.builtin .append,args:=#[s,x],argTypes:=#[t,t] })
  (base:Nat) (e:TypeId) (z:Value) (size bytes:Nat) (ht:P.underlying t=some (.slice e)) (hinfo:(P.info? e).map (fun i=>(i.zero,i.size,i.bytes))=some (some z,size,bytes))
  (hzs:z.cells.size=size) (hsz:0<size) (v:Value) (n:Nat) (xs:List Value) (hs:a.eval s=v) (hown:w.ownsRow base e size v n xs)
  (sp:Option Addr) (m c:Nat) (hx:a.eval x=.slice sp m c) (news:List Value) (hl:news.length=m * size) (hnil:sp=none->m=0) (hnews:∀ a,sp=some a->∀ j u,news[j]?=some u->w.cell? (a.add j)=some u) (h1:∀ u∈news,u.oneCell'=true)
  (h63:n+m<=maxLen) (hbytes:(n+m) * bytes<=140737488355328) (hbase:base<=w.heap.size)
  (h:∀ a' c' w',Hid (w'.ownsRow base e size (.slice a' (n+m) c') (n+m) (xs ++ news))->Hid (w.grownBy w' v.ownBlock)->Hid ((Value.slice a' (n+m) c').ownBlock=v.ownBlock∨(Value.slice a' (n+m) c').ownBlock=some w.heap.size)->wpList P ops Q rest (a.put o.dst (.slice a' (n+m) c')) w'):wpList P ops Q (o :: rest) a w:=
 wpList_plain E fun _ hK=>zfd s x t ho base e z size bytes ht hinfo hzs hsz v n xs hs hown sp m c hx news hl hnil hnews h1 h63 hbytes hbase fun a' c' w' h2 h3 G=>hK _ _ (h a' c' w' h2 h3 G)
theorem zaq{P:Program}{w:World}{ops:Array Oper}{o:Oper}{a:Act}{K:Act->World->Prop}{Q:Exit->Act->World->Prop}{E:Prop}(G:o.guard=none)(s x:Operand)(t:TypeId)
  (ho:o.op=.call { callee:=.builtin .append,args:=#[s,x],argTypes:=#[t,t] })
  (base:Nat) (e:TypeId) (z:Value) (size bytes:Nat) (ht:P.underlying t=some (.slice e)) (hinfo:(P.info? e).map (fun i=>(i.zero,i.size,i.bytes))=some (some z,size,bytes))
  (hzs:z.cells.size=size) (hsz:0<size) (v:Value) (n:Nat) (xs:List Value) (hs:a.eval s=v) (hown:w.ownsRow base e size v n xs)
  (sp:Option Addr) (m c:Nat) (hx:a.eval x=.slice sp m c) (news:List Value) (hl:news.length=m * size) (hnil:sp=none->m=0) (hnews:∀ a,sp=some a->∀ j u,news[j]?=some u->w.cell? (a.add j)=some u) (h1:∀ u∈news,u.oneCell'=true)
  (h63:n+m<=maxLen) (hbytes:(n+m) * bytes<=140737488355328) (hbase:base<=w.heap.size)
  (h:∀ a' c' w',Hid (w'.ownsRow base e size (.slice a' (n+m) c') (n+m) (xs ++ news))->Hid (w.grownBy w' v.ownBlock)->Hid ((Value.slice a' (n+m) c').ownBlock=v.ownBlock∨(Value.slice a' (n+m) c').ownBlock=some w.heap.size)->K (a.put o.dst (.slice a' (n+m) c')) w') :
  if Region.wanted o (yielded ops a.tmps)=true then Oper.wp P o a w K Q else E:=by
 have hw:Region.wanted o (yielded ops a.tmps)=true:=by simp[Region.wanted,G]
 rw[if_pos hw];exact zfd s x t ho base e z size bytes ht hinfo hzs hsz v n xs hs hown sp m c hx news hl hnil hnews h1 h63 hbytes hbase h
theorem zar{w w':World}{base:Nat}{e:TypeId}{size:Nat}{v:Value}{n:Nat}{xs:List Value}(h:w.ownsRow base e size v n xs)(hb:∀ g,v.ownBlock=some g->w'.heap[g]?=w.heap[g]?):w'.ownsRow base e size v n xs:=by
 refine ⟨h.1,?_⟩;rcases h.2 with h | ⟨g,cap,cur,rfl,h2,h3,E⟩
 ·exact .inl h
 exact .inr ⟨g,cap,cur,rfl,h2,(hb g rfl).trans h3,E⟩
theorem zaO{w:World}{base base':Nat}{e:TypeId}{size:Nat}{v:Value}{n:Nat}{xs:List Value}(h:w.ownsRow base e size v n xs)(hb:base'<=base):w.ownsRow base' e size v n xs:=by
 refine ⟨h.1,?_⟩;rcases h.2 with h | ⟨g,cap,cur,rfl,h2,h3⟩
 ·exact .inl h
 exact .inr ⟨g,cap,cur,rfl,by omega,h3⟩
theorem zbE{w:World}{base:Nat}{e:TypeId}{size:Nat}{a:Option Addr}{n c:Nat}{xs:List Value}(h:w.ownsRow base e size (.slice a n c) n xs){j:Nat}{x:Value}(hx:xs[j]?=some x):∃ g,a=some ⟨g,0,none⟩/\base<=g/\w.cell? ⟨g,j,none⟩=some x/\w.frozen? ⟨g,j,none⟩=false:=by
 have hj:j<xs.length:=(List.getElem?_eq_some_iff.1 hx).1;rcases h.2 with ⟨_,E⟩ | ⟨g,cap,cur,he,h2,h3,I,O,U,G⟩
 ·have:=h.1;subst E;simp at this;subst this;simp at hj
 simp only[Value.slice.injEq]at he;obtain ⟨rfl,_,_⟩:=he;refine ⟨g,rfl,h2,?_,by simp[World.frozen?,h3]⟩;rw[<- G,List.getElem?_take]at hx;split at hx
 ·simp[World.cell?,h3];simpa using hx
 cases hx
def Apart(x y:Value):Prop:=∀ g,x.ownBlock=some g->y.ownBlock≠some g
theorem OwnB.owns{w:World}{g:Nat}{t:TypeId}{m N base:Nat}{rs:List (List Value)}(h:OwnB w g t m N rs)(hb:base<=g)(hN:rs.length=N)(hm:N<=maxLen):w.ownsRow base t m (.slice (some ⟨g,0,none⟩) N N) N rs.flatten:=by
 obtain ⟨c,h1,h2,_,U⟩:=h;have ab:rs.flatten.length=N * m:=by
  rw[List.length_flatten];have:∀ (l:List (List Value)),(∀ r∈l,r.length=m)->(l.map List.length).sum=l.length * m:=by
   intro l
   induction l with
   | nil=>intro _;simp
   | cons r l ih=>
    intro hr;rw[List.map_cons,List.sum_cons,ih (fun x hx=>hr x (by simp[hx])),hr r (by simp),List.length_cons,Nat.succ_mul];omega
  rw[this rs (fun r hr=>by
   obtain ⟨i,hi,rfl⟩:=List.getElem_of_mem hr;exact (U i _ (List.getElem?_eq_getElem hi)).1),hN]
 refine ⟨ab,.inr ⟨g,N,c,rfl,hb,h1,Nat.le_refl _,hm,h2,?_⟩⟩;rw[List.take_of_length_le (by simp;omega)];apply List.ext_getElem?;intro j;by_cases hj:j<N * m
 ·have G:0<m:=by
   rcases Nat.eq_zero_or_pos m with h0 | h0
   ·subst h0;simp at hj
   exact h0
  have hi:j / m<rs.length:=by rw[hN];exact Nat.div_lt_of_lt_mul (by rw[Nat.mul_comm];exact hj)
  obtain ⟨hr,hc⟩:=U (j / m) _ (List.getElem?_eq_getElem hi);have O:j % m<rs[j / m].length:=by rw[hr];exact Nat.mod_lt _ G
  have h5:=hc (j % m) _ (List.getElem?_eq_getElem O);rw[Nat.div_add_mod' j m]at h5;rw[Array.getElem?_toList,h5];have ad:∀ (l:List (List Value)) (k:Nat),(∀ r∈l,r.length=m)->∀ (hk:k / m<l.length) (ae:k % m<(l[k / m]).length),l.flatten[k]?=some ((l[k / m])[k % m]):=by
   intro l
   induction l with
   | nil=>intro k _ hk;simp at hk
   | cons r l ih=>
    intro k E hk ae;have X:r.length=m:=E r (by simp);rw[List.flatten_cons];by_cases I:k<m
    ·have e1:k / m=0:=Nat.div_eq_of_lt I;have e2:k % m=k:=Nat.mod_eq_of_lt I;rw[List.getElem?_append_left (by omega)];simp only[e1,e2,List.getElem_cons_zero];rw[List.getElem?_eq_getElem (by omega)]
    have e1:k / m=(k - m) / m+1:=by
     have:=Nat.add_div_right (k - m) G;rw[Nat.sub_add_cancel (by omega)]at this;exact this
    have e2:k % m=(k - m) % m:=by
     have:=Nat.add_mod_right (k - m) m;rw[Nat.sub_add_cancel (by omega)]at this;exact this
    rw[List.getElem?_append_right (by omega),X];have af:(k - m) / m<l.length:=by
     rw[e1]at hk;simpa using hk
    have:=ih (k - m) (fun x hx=>E x (by simp[hx])) af (by rw[E _ (by simp[List.getElem_mem])];exact Nat.mod_lt _ G);rw[this];simp only[e1,e2,List.getElem_cons_succ]
  exact (ad rs j (fun r hr=>by
   obtain ⟨i,Z,rfl⟩:=List.getElem_of_mem hr;exact (U i _ (List.getElem?_eq_getElem Z)).1) hi O).symm
 rw[List.getElem?_eq_none (by simp;omega),List.getElem?_eq_none (by omega)]
end Go.Proofs.YtjjjagepnnbebaaGreatDoor
namespace Go.Proofs.YtjjjagepnnbebaaGreatDoor
open Go.RowKit
attribute [local go_sem ↓] Go.wp_at_zero Go.wp_at_succ
set_option maxHeartbeats 800000 in
theorem zdI(v:V)(w:World)(hs:v.sym.size<=maxLen) :
  Calls Tryz.prog 114 #[.agg #[.int .i64 v.kind,.int .i64 v.num,.string v.sym]] w fun e w'=>
   e=.returned (.bool (gVal v))/\Below w.heap.size w w':=by
 have I:=zHB w;obtain ⟨G⟩:Nonempty (Hid (gVal v=((v.kind==0 && v.sym.toList.isEmpty) || (v.kind==1 && (v.num==0 && gSym v.sym.data.toList))))):=⟨rfl⟩
 have hg:=zbp v.sym (w.alloc (.cells #[.int .i64 v.kind,.int .i64 v.num,.string v.sym] 93)) hs
 cases h1:(v.kind==0) <;> cases h2:v.sym.toList.isEmpty <;> cases h3:(v.kind==1) <;> cases E:(v.num==0)
 all_goals
  go_enter Tryz.func114,Tryz.ntmps114;go_wp2_with (go_at_call 64;refine hg.mono ?_;rintro e w' ⟨rfl,rfl⟩)
 all_goals try go_ret
 all_goals exact ⟨zah (by rw[G.out,h1,h2,h3,E];simp),I _⟩
theorem zb1{a b:ByteArray}:(a.toList==b.toList)=decide (a=b):=by
 rw[<- beq_toListBytes];by_cases h:a=b
 ·subst h;rw[beq_toListBytes];simp
 rw[decide_eq_false h,beq_toListBytes];simp only[beq_eq_false_iff_ne,ne_eq,ByteArray.toList_eq];intro e;exact h (Go.WideShapes.bytes_inj e)
end Go.Proofs.YtjjjagepnnbebaaGreatDoor
namespace Go.Proofs.YtjjjagepnnbebaaGreatDoor
open Go.RowKit
theorem zb3.mono{α:Type}{le:Nat->α->Prop}{N M:Nat}(h:N<=M)(hm:∀ x,le N x->le M x){xs:List α}(hx:zb3 le N xs):zb3 le M xs:=⟨Nat.le_trans hx.1 h,fun x E=>hm x (hx.2 x E)⟩
theorem Tm.mono{N M:Nat}(h:N<=M)(x:Tm)(hx:x.le N):x.le M:=⟨Nat.le_trans hx.1 h,Nat.le_trans hx.2 h⟩
theorem Ex.mono{N M:Nat}(h:N<=M)(x:Ex)(hx:x.le N):x.le M:=⟨Nat.le_trans hx.1 h,Nat.le_trans hx.2 h⟩
theorem zbH:1048576<=maxLen:=by unfold maxLen;omega
def zcK(w:World)(b:Nat)(x:Ru)(a_pats:Option Addr)(c_pats:Nat)(a_exprs:Option Addr)(c_exprs:Nat)(a_acts:Option Addr)(c_acts:Nat):Prop:=
 w.cell? ⟨b,0,none⟩=some (.string x.name)/\w.cell? ⟨b,1,none⟩=some (.int .i64 x.sal)/\w.cell? ⟨b,2,none⟩=some (.slice a_pats x.pats.length c_pats)/\w.cell? ⟨b,3,none⟩=some (.slice a_exprs x.exprs.length c_exprs)/\w.cell? ⟨b,4,none⟩=some (.slice a_acts x.acts.length c_acts)
theorem zcK.below{w w':World}{b:Nat}{x:Ru}{a_pats:Option Addr}{c_pats:Nat}{a_exprs:Option Addr}{c_exprs:Nat}{a_acts:Option Addr}{c_acts:Nat}(h:zcK w b x a_pats c_pats a_exprs c_exprs a_acts c_acts)(hb:Below w.heap.size w w'):zcK w' b x a_pats c_pats a_exprs c_exprs a_acts c_acts:=
 ⟨zaa hb h.1,zaa hb h.2.1,zaa hb h.2.2.1,zaa hb h.2.2.2.1,zaa hb h.2.2.2.2⟩
theorem zcK.made(w:World)(t:TypeId)(x:Ru)(a_pats:Option Addr)(c_pats:Nat)(a_exprs:Option Addr)(c_exprs:Nat)(a_acts:Option Addr)(c_acts:Nat):zcK (w.alloc (.cells #[.string x.name,.int .i64 x.sal,.slice a_pats x.pats.length c_pats,.slice a_exprs x.exprs.length c_exprs,.slice a_acts x.acts.length c_acts] t)) w.heap.size x a_pats c_pats a_exprs c_exprs a_acts c_acts:=by
 refine ⟨?_,?_,?_,?_,?_⟩ <;> simp[go_sem]
def icells(xs:List Int):List Value:=xs.map (Value.int .i64)
structure OLL (w:World) (base:Nat) (v:Value) (n:Nat) (xss:List (List Int)) (vs:List Value):Prop where
 num:n=xss.length
 len:vs.length=xss.length
 own:w.ownsRow base 71 1 v n vs
 each:∀ (i:Nat) (xs:List Int) (x:Value),xss[i]?=some xs->vs[i]?=some x->(∃ a c,x=.slice a xs.length c)/\w.ownsRow base 3 1 x xs.length (icells xs)
 apart:∀ x∈vs,Apart v x
 pair:vs.Pairwise Apart
def InLL(v:Value)(vs:List Value)(g:Nat):Prop:=v.ownBlock=some g∨∃ x∈vs,x.ownBlock=some g
theorem OLL.each'{w:World}{base:Nat}{v:Value}{n:Nat}{xss:List (List Int)}{vs:List Value}(h:OLL w base v n xss vs){x:Value}(hx:x∈vs):∃ xs∈xss,w.ownsRow base 3 1 x xs.length (icells xs):=by
 obtain ⟨i,hi,rfl⟩:=List.getElem_of_mem hx;have hf:i<xss.length:=by rw[<- h.len];exact hi
 exact ⟨xss[i],List.getElem_mem hf,(h.each i _ _ (List.getElem?_eq_getElem hf) (List.getElem?_eq_getElem hi)).2⟩
theorem OLL.range{w:World}{base:Nat}{v:Value}{n:Nat}{xss:List (List Int)}{vs:List Value}(h:OLL w base v n xss vs){g:Nat}(hg:InLL v vs g):base<=g/\g<w.heap.size:=by
 rcases hg with hg | ⟨x,hx,hg⟩
 ·exact h.own.lt g hg
 obtain ⟨xs,_,ho⟩:=h.each' hx;exact ho.lt g hg
theorem OLL.kept{w w':World}{base:Nat}{v:Value}{n:Nat}{xss:List (List Int)}{vs:List Value}(h:OLL w base v n xss vs)(hb:∀ g,InLL v vs g->w'.heap[g]?=w.heap[g]?):OLL w' base v n xss vs:=
 ⟨h.num,h.len,zar h.own (fun g hg=>hb g (.inl hg)),fun i f x hf hx=>⟨(h.each i f x hf hx).1,zar (h.each i f x hf hx).2 (fun g hg=>hb g (.inr ⟨x,List.mem_of_getElem? hx,hg⟩))⟩,h.apart,h.pair⟩
theorem OLL.below{w w':World}{base:Nat}{v:Value}{n:Nat}{xss:List (List Int)}{vs:List Value}(h:OLL w base v n xss vs)(hb:Below w.heap.size w w'):OLL w' base v n xss vs:=
 h.kept fun g hg=>hb.block g (h.range hg).2
theorem OLL.nil(w:World)(base:Nat):OLL w base (.slice none 0 0) 0 [] []:=
 ⟨rfl,rfl,World.ownsRow_nil _ _ _ _,fun i f x hf=>by simp at hf,fun x hx=>by simp at hx,List.Pairwise.nil⟩
theorem zbL.owns{w:World}{base n:Nat}{a:Option Addr}{c:Nat}{xs:List Int}(h:w.ownsRow base 3 1 (.slice a n c) n (icells xs)):zbL none w a xs:=by
 intro i s hs;have G:(icells xs)[i]?=some (.int .i64 s):=by simp[icells,hs]
 obtain ⟨g,rfl,_,I,_⟩:=zbE h G;refine ⟨g,0,[.int .i64 s],rfl,Qb.bare _ _ _,rfl,?_,rfl⟩;intro j v hj;have E:j=0:=by
  have:=(List.getElem?_eq_some_iff.1 hj).1;simp at this;exact this
 subst E;simp at hj;subst hj;simpa using I
def zoV(w:World)(a:Option Addr)(xss:List (List Int)):Prop:=
 ∀ (i:Nat) (xs:List Int),xss[i]?=some xs->∃ b o a' c',a=some ⟨b,o,none⟩/\w.cell? ⟨b,o+i,none⟩=some (.slice a' xs.length c')/\zbL none w a' xs
theorem zoV.below{w w':World}{a:Option Addr}{xss:List (List Int)}(h:zoV w a xss)(hb:Below w.heap.size w w'):zoV w' a xss:=by
 intro i xs hx;obtain ⟨b,o,a',c',e,E,hi⟩:=h i xs hx;exact ⟨b,o,a',c',e,zaa hb E,hi.below hb⟩
theorem OLL.at{w:World}{base:Nat}{a:Option Addr}{n c:Nat}{xss:List (List Int)}{vs:List Value}(h:OLL w base (.slice a n c) n xss vs):zoV w a xss:=by
 intro i xs hx;have hi:i<xss.length:=(List.getElem?_eq_some_iff.1 hx).1;have hv:vs[i]?=some (vs[i]'(by rw[h.len];exact hi)):=List.getElem?_eq_getElem _;obtain ⟨⟨a',c',e⟩,ho⟩:=h.each i xs _ hx hv;obtain ⟨g,rfl,_,E,_⟩:=zbE h.own hv;rw[e]at E ho;exact ⟨g,0,a',c',rfl,by simpa using E,zbL.owns ho⟩
def tmC(x:Tm):List Value:=[.int .i64 x.kind,.int .i64 x.op,.string x.var,.int .i64 x.val.kind,.int .i64 x.val.num,.string x.val.sym]
theorem zca(x:Tm):∀ v∈tmC x,v.oneCell'=true:=by
 intro v hv;simp[tmC]at hv;rcases hv with rfl | rfl | rfl | rfl | rfl | rfl <;> rfl
def exC(x:Ex):List Value:=[.int .i64 x.kind,.int .u8 x.op,.string x.var,.int .i64 x.val.kind,.int .i64 x.val.num,.string x.val.sym,.int .i64 x.a,.int .i64 x.b]
theorem zdb(x:Ex):∀ v∈exC x,v.oneCell'=true:=by
 intro v hv;simp[exC]at hv;rcases hv with rfl | rfl | rfl | rfl | rfl | rfl | rfl | rfl <;> rfl
end Go.Proofs.YtjjjagepnnbebaaGreatDoor
namespace Go.Proofs.YtjjjagepnnbebaaGreatDoor
def Tm.lq(_:Nat)(_:Tm):Prop:=True
def Pt.lq(N:Nat)(x:Pt):Prop:=True/\zb3 Tm.lq N x.terms
def Ex.lq(_:Nat)(_:Ex):Prop:=True
def Ac.lq(N:Nat)(x:Ac):Prop:=True/\x.args.length<=N
def Ru.lq(N:Nat)(x:Ru):Prop:=True/\zb3 Pt.lq N x.pats/\zb3 Ex.lq N x.exprs/\zb3 Ac.lq N x.acts
end Go.Proofs.YtjjjagepnnbebaaGreatDoor
