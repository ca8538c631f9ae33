/-
  OUR OWN TEXT. Plain, Own, Mem, Copy, Sym, one behind the other.
-/
import Derived.WalkKit
import Derived.WalkSpells
import Derived.WalkLawsBesides
import Derived.Laws.IdiomCopy
import Derived.Test.YtjjjagepnnbebaaGreatDoorRows
import Derived.Laws.CopyOwn
set_option maxHeartbeats 800000
namespace Go.Proofs.YtjjjagepnnbebaaGreatDoor
def isL(c:Int):Bool:=decide (97<=c) && decide (c<=122)
def isD(c:Int):Bool:=decide (48<=c) && decide (c<=57)
def isC(c:Int):Bool:=isL c || isD c || decide (c=45)
def zj3(c:UInt8):Bool:=isL (c.toNat:Int)
def zdW(c:UInt8):Bool:=isC (c.toNat:Int)
def gSym(s:List UInt8):Bool:=decide (1<=s.length) && decide (s.length<=20) && zj3 (s.headD 0) && s.all zdW
open Go.RowKit in
theorem zHB(w:World):∀ o,Below w.heap.size w (w.alloc o):=fun o=>(Below.refl _ _).alloc (Nat.le_refl _) o
open Go.RowKit in
theorem zHA(w:World):Hid (∀ o,Below w.heap.size w (w.alloc o)):=zHB w
theorem zl3{c:Int}(h:isL c=true):isC c=true:=by simp[isC,h]
theorem zew{s:List UInt8}(h:s.length=0):gSym s=false:=by simp[gSym,h]
theorem zjX{s:List UInt8}(h:20<s.length):gSym s=false:=by
 have:decide (s.length<=20)=false:=by simpa using h
 simp[gSym,this]
theorem zjV{s:List UInt8}(h:zj3 (s.headD 0)=false):gSym s=false:=by simp only[gSym,h,Bool.and_false,Bool.false_and]
theorem zpO{s:List UInt8}{k:Nat}(hk:k<s.length)(h:zdW s[k]=false):gSym s=false:=by
 have:s.all zdW=false:=by
  rw[List.all_eq_false];exact ⟨s[k],List.getElem_mem hk,by simp[h]⟩
 simp[gSym,this]
theorem zm9{s:List UInt8}(h1:1<=s.length)(h2:s.length<=20)(h3:zj3 (s.headD 0)=true)(E:s.all zdW=true):gSym s=true:=by
 simp only[gSym,h3,E,Bool.and_true,Bool.and_eq_true,decide_eq_true_eq];exact ⟨h1,h2⟩
theorem zij{s:List UInt8}{k:Nat}(hk:k<s.length)(h:(s.take k).all zdW=true)(E:zdW s[k]=true):(s.take (k+1)).all zdW=true:=by
 rw[List.take_succ_eq_append_getElem hk,List.all_append,h];simp[E]
end Go.Proofs.YtjjjagepnnbebaaGreatDoor
namespace Go.Proofs.YtjjjagepnnbebaaGreatDoor
open Go.RowKit
theorem zdG{α:Type}(l:List α)(k:Nat)(x:α)(h:l[k]?=some x):l.take (k+1)=l.take k ++ [x]:=by
 obtain ⟨hk,rfl⟩:=List.getElem?_eq_some_iff.1 h;exact List.take_succ_eq_append_getElem hk
theorem zaU{α:Type}{l:List α}{k:Nat}{x:α}(h:l[k]?=some x):l.drop k=x :: l.drop (k+1):=by
 obtain ⟨hk,rfl⟩:=List.getElem?_eq_some_iff.1 h;exact List.drop_eq_getElem_cons hk
theorem zab{w:World}{g:Nat}{o:Obj}(h:w.heap[g]?=some o):g<w.heap.size:=(Array.getElem?_eq_some_iff.1 h).1
theorem zap{w:World}{g i:Nat}{c:Array Value}{t:TypeId}{E:Nat × Nat}(h:w.heap[g]?=some (.cells c t E))(x:Value) :
  (w.setCell ⟨g,i,none⟩ x).heap[g]?=some (.cells (c.setIfInBounds i x) t E):=by
 simp[World.setCell,Array.getElem?_modify,h]
theorem zcF:∀ (vs:List Value) (o:Nat) (w:World) (g:Nat) (c:Array Value) (t:TypeId) (G:Nat × Nat),w.heap[g]?=some (.cells c t G) ->
  ∃ c',(w.setCells g o vs).heap[g]?=some (.cells c' t G)/\c'.size=c.size/\(∀ j x,vs[j]?=some x->o+j<c.size->c'[o+j]?=some x)/\(∀ i,i<o∨o+vs.length<=i->c'[i]?=c[i]?)
 | [],o,w,g,c,t,G,h=>⟨c,h,rfl,fun j x hj=>by simp at hj,fun _ _=>rfl⟩
 | v :: r,o,w,g,c,t,G,h=>by
  obtain ⟨c',h1,h2,h3,I⟩:=zcF r (o+1) _ g _ t G (zap (i:=o) h v)
  refine ⟨c',h1,by rw[h2];simp,?_,?_⟩
  ·intro j x hj E
   cases j with
   | zero=>
    simp at hj
    subst hj
    rw[Nat.add_zero,I o (Or.inl (Nat.lt_succ_self o)),Array.getElem?_setIfInBounds]
    simp at E
    simp[E]
   | succ j=>
    have:=h3 j x (by simpa using hj) (by simp;omega)
    rwa [show o+1+j=o+(j+1) by omega]at this
  intro i hi
  rw[I i (by simp at hi;omega),Array.getElem?_setIfInBounds,if_neg (by simp at hi;omega)]
theorem Below.setCells{B:Nat}{a:World}:∀ (vs:List Value) (o:Nat) (w:World) (g:Nat),Below B a w->B<=g->Below B a (w.setCells g o vs)
 | [],_,_,_,h,_=>h
 | v :: r,o,_,g,h,hg=>Below.setCells r (o+1) _ g (h.setCell (p:=⟨g,o,none⟩) hg v) hg
theorem bcell{W E:World}(hb:Below W.heap.size W E):(∀ b o,b<W.heap.size->E.cell? ⟨b,o,none⟩=W.cell? ⟨b,o,none⟩)/\(∀ b o,b<W.heap.size->E.frozen? ⟨b,o,none⟩=W.frozen? ⟨b,o,none⟩):=
 ⟨fun b o h=>hb.cell (p:=⟨b,o,none⟩) h,fun b o h=>hb.frozen (p:=⟨b,o,none⟩) h⟩
def OwnB(w:World)(g:Nat)(t:TypeId)(m N:Nat)(rs:List (List Value)):Prop:=
 ∃ c:Array Value,w.heap[g]?=some (.cells c t (0,0))/\c.size=N * m/\rs.length<=N/\∀ i r,rs[i]?=some r->r.length=m/\∀ j x,r[j]?=some x->c[i * m+j]?=some x
theorem OwnB.lt{w:World}{g:Nat}{t:TypeId}{m N:Nat}{rs:List (List Value)}(h:OwnB w g t m N rs):g<w.heap.size:=by
 obtain ⟨c,h1,_⟩:=h;exact zab h1
theorem OwnB.of_block{w w':World}{g:Nat}{t:TypeId}{m N:Nat}{rs:List (List Value)}(h:OwnB w g t m N rs)(e:w'.heap[g]?=w.heap[g]?):OwnB w' g t m N rs:=by
 obtain ⟨c,h1,h2⟩:=h;exact ⟨c,e.trans h1,h2⟩
theorem OwnB.below{w w':World}{g B:Nat}{t:TypeId}{m N:Nat}{rs:List (List Value)}(h:OwnB w g t m N rs)(hb:Below B w w')(hg:g<B):OwnB w' g t m N rs:=
 h.of_block (hb.block g hg)
theorem OwnB.cell{w:World}{g:Nat}{t:TypeId}{m N:Nat}{rs:List (List Value)}(h:OwnB w g t m N rs){i j:Nat}{r:List Value}{x:Value}(hi:rs[i]?=some r)(hj:r[j]?=some x) :
  w.cell? ⟨g,i * m+j,none⟩=some x:=by
 obtain ⟨c,h1,_,_,h3⟩:=h;simp[World.cell?,h1,(h3 i r hi).2 j x hj]
theorem OwnB.there{w:World}{g:Nat}{t:TypeId}{m N:Nat}{rs:List (List Value)}(h:OwnB w g t m N rs){i j:Nat}(hi:i<N)(hj:j<m):∃ x,w.cell? ⟨g,i * m+j,none⟩=some x:=by
 obtain ⟨c,h1,h2,_,_⟩:=h;have E:i * m+j<c.size:=by
  rw[h2];have:(i+1) * m<=N * m:=Nat.mul_le_mul_right m hi;rw[Nat.succ_mul]at this;omega
 exact ⟨c[i * m+j],by simp[World.cell?,h1,E]⟩
theorem OwnB.put{w:World}{g:Nat}{t:TypeId}{m N:Nat}{rs:List (List Value)}(h:OwnB w g t m N rs)(r:List Value)(hr:r.length=m)(Z:rs.length<N):OwnB (w.setCells g (rs.length * m) r) g t m N (rs ++ [r]):=by
 obtain ⟨c,h1,h2,h3,O⟩:=h;obtain ⟨c',X,k2,U,k4⟩:=zcF r (rs.length * m) w g c t (0,0) h1;refine ⟨c',X,by rw[k2,h2],by simp;omega,?_⟩;intro i q hi;by_cases E:i<rs.length
 ·rw[List.getElem?_append_left E]at hi;obtain ⟨hq,hc⟩:=O i q hi;refine ⟨hq,fun j x hj=>?_⟩;have G:j<q.length:=(List.getElem?_eq_some_iff.1 hj).1;rw[k4 _ (Or.inl ?_)]
  ·exact hc j x hj
  have:(i+1) * m<=rs.length * m:=Nat.mul_le_mul_right m E;rw[Nat.succ_mul]at this;omega
 have I:i<(rs ++ [r]).length:=(List.getElem?_eq_some_iff.1 hi).1;simp at I;obtain rfl:i=rs.length:=by omega
 simp at hi;subst hi;refine ⟨hr,fun j x hj=>U j x hj ?_⟩;have G:j<r.length:=(List.getElem?_eq_some_iff.1 hj).1;rw[h2];have:(rs.length+1) * m<=N * m:=Nat.mul_le_mul_right m Z;rw[Nat.succ_mul]at this;omega
theorem OwnB.made(w:World)(z:Array Value)(t:TypeId)(m N:Nat):OwnB (w.alloc (.cells (madeCells z (N * m)) t)) w.heap.size t m N []:=
 ⟨_,heap_alloc_new _ _,size_madeCells _ _,Nat.zero_le _,fun i r h=>by simp at h⟩
theorem OwnB.alloc{w:World}{g:Nat}{t:TypeId}{m N:Nat}{rs:List (List Value)}(h:OwnB w g t m N rs)(o:Obj):OwnB (w.alloc o) g t m N rs:=
 h.of_block (Below.heap_alloc _ _ _ h.lt)
abbrev V:=Int × Int × ByteArray
def V.kind(v:V):Int:=v.1
def V.num(v:V):Int:=v.2.1
def V.sym(v:V):ByteArray:=v.2.2
theorem V.same{v u:V}(h1:v.kind=u.kind)(h2:v.num=u.num)(h3:v.sym=u.sym):v=u:=Prod.ext h1 (Prod.ext h2 h3)
structure F where
 tag:Int
 cls:ByteArray
 slots:List V
def zh3(w:World)(a:Option Addr)(vs:List V):Prop:=
 ∀ (i:Nat) (v:V),vs[i]?=some v->∃ b o,a=some ⟨b,o,none⟩/\w.cell? ⟨b,o+i * 3,none⟩=some (.int .i64 v.kind) /\
  w.cell? ⟨b,o+i * 3+1,none⟩=some (.int .i64 v.num)/\w.cell? ⟨b,o+i * 3+2,none⟩=some (.string v.sym)
def zkE(w:World)(a:Option Addr)(fs:List F):Prop:=
 ∀ (i:Nat) (f:F),fs[i]?=some f->∃ b o,a=some ⟨b,o,none⟩/\w.cell? ⟨b,o+i * 3,none⟩=some (.int .i64 f.tag) /\
  w.cell? ⟨b,o+i * 3+1,none⟩=some (.string f.cls)/\∃ a' c,w.cell? ⟨b,o+i * 3+2,none⟩=some (.slice a' f.slots.length c)/\zh3 w a' f.slots
theorem zaa{w w':World}{p:Addr}{x:Value}(hb:Below w.heap.size w w')(h:w.cell? p=some x):w'.cell? p=some x:=by
 rw[hb.cell (p:=p) ?_]
 ·exact h
 unfold World.cell? at h;by_cases hp:p.block<w.heap.size
 ·exact hp
 rw[Array.getElem?_eq_none (by omega)]at h;simp at h
theorem zh3.below{w w':World}{a:Option Addr}{vs:List V}(h:zh3 w a vs)(hb:Below w.heap.size w w'):zh3 w' a vs:=by
 intro i v hv;obtain ⟨b,o,rfl,h1,h2,h3⟩:=h i v hv;exact ⟨b,o,rfl,zaa hb h1,zaa hb h2,zaa hb h3⟩
theorem zkE.below{w w':World}{a:Option Addr}{fs:List F}(h:zkE w a fs)(hb:Below w.heap.size w w'):zkE w' a fs:=by
 intro i f hf;obtain ⟨b,o,rfl,h1,h2,a',c,h3,E⟩:=h i f hf;exact ⟨b,o,rfl,zaa hb h1,zaa hb h2,a',c,zaa hb h3,E.below hb⟩
def V.cells(v:V):List Value:=[.int .i64 v.kind,.int .i64 v.num,.string v.sym]
theorem zh3.own{w:World}{g:Nat}{t:TypeId}{N:Nat}{vs:List V}(h:OwnB w g t 3 N (vs.map V.cells)):zh3 w (some ⟨g,0,none⟩) vs:=by
 intro i v hv;have hi:(vs.map V.cells)[i]?=some v.cells:=by simp[hv]
 refine ⟨g,0,rfl,?_,?_,?_⟩
 ·simpa using h.cell hi (j:=0) rfl
 ·simpa using h.cell hi (j:=1) rfl
 simpa using h.cell hi (j:=2) rfl
theorem zcc{k:IntKind}{a b:Int}(h:a=b):Ending.returned (.int k a)=.returned (.int k b):=by rw[h]
theorem zej(c:Int)(w:World) :
  Calls Tryz.prog 139 #[.int .u8 c] w fun e w'=>e=.returned (.bool (isL c))/\w'=w:=by
 go_enter Tryz.func139,Tryz.ntmps139;go_wp2
 all_goals (go_ret;exact ⟨by simp[isL];omega,rfl⟩)
theorem ze4(c:Int)(w:World) :
  Calls Tryz.prog 140 #[.int .u8 c] w fun e w'=>e=.returned (.bool (isD c))/\w'=w:=by
 go_enter Tryz.func140,Tryz.ntmps140;go_wp2
 all_goals (go_ret;exact ⟨by simp[isD];omega,rfl⟩)
theorem zcn(s:ByteArray):s.data.toList.length=s.size:=by
 obtain ⟨⟨l⟩⟩:=s;rfl
theorem zih(s:ByteArray)(h:0<s.size):s.data.toList.headD 0=s[0]:=by
 obtain ⟨⟨l⟩⟩:=s
 cases l with
 | nil=>exact absurd h (Nat.lt_irrefl 0)
 | cons a l=>rfl
theorem zgD(s:ByteArray)(k:Nat)(h:k<s.size):s.data.toList[k]'(by rw[zcn];exact h)=s[k]:=by
 obtain ⟨⟨l⟩⟩:=s;rfl
theorem zjY{s:ByteArray}{k:Nat}(hk:k<s.size)(h:isC (s[k].toNat:Int)=false):gSym s.data.toList=false:=
 zpO (k:=k) (by rw[zcn];exact hk) (by rw[zgD s k hk];exact h)
theorem zdn{s:ByteArray}{k:Nat}(hk:k<s.size)(h:(s.data.toList.take k).all zdW=true)(E:isC (s[k].toNat:Int)=true):(s.data.toList.take (k+1)).all zdW=true:=
 zij (by rw[zcn];exact hk) h (by rw[zgD s k hk];exact E)
theorem zhD{s:ByteArray}{k:Nat}(h1:0<s.size)(h2:s.size<=20)(h3:isL (s[0].toNat:Int)=true)(hk:s.size<=k)(E:(s.data.toList.take k).all zdW=true):gSym s.data.toList=true:=by
 refine zm9 (by rw[zcn];omega) (by rw[zcn];omega) (by rw[zih s h1];exact h3) ?_
 rwa [List.take_of_length_le (by rw[zcn];omega)]at E
theorem zse(c:Int):isC c=(isL c || isD c || !(c != 45)):=by
 unfold isC;congr 1;by_cases h:c=45 <;> simp[h]
theorem zsa{c:Int}(h:(97<=c/\c<=122)∨(48<=c/\c<=57)∨(44<c/\c<46)):isC c=true:=by
 simp[isC,isL,isD];omega
theorem zqG{c:Int}(h:¬ ((97<=c/\c<=122)∨(48<=c/\c<=57)∨(44<c/\c<46))):isC c=false:=by
 simp[isC,isL,isD];omega
theorem zah{a b:Bool}(h:a=b):Ending.returned (.bool a)=.returned (.bool b):=by rw[h]
theorem zaR(s:ByteArray)(w:World)(hs:s.size<=maxLen) :
  Calls Tryz.prog 96 #[.string s] w fun e w'=>e=.returned (.bool (gSym s.data.toList))/\w'=w:=by
 unfold maxLen at hs;by_cases h0:s.size<1
 ·have G:Hid (gSym s.data.toList=false):=zew (s:=s.data.toList) (by rw[zcn];omega);have t1:(s.size:Int)<1:=by omega
  go_enter Tryz.func96,Tryz.ntmps96;go_wp2;go_ret;exact ⟨zah G.out.symm,rfl⟩
 by_cases h1:20<s.size
 ·have G:Hid (gSym s.data.toList=false):=zjX (s:=s.data.toList) (by rw[zcn];omega);have t1:(20:Int)<s.size:=by omega
  go_enter Tryz.func96,Tryz.ntmps96;go_wp2;go_ret;exact ⟨zah G.out.symm,rfl⟩
 have hp:0<s.size:=by omega
 have d1:decide ((s.size:Int)<1)=false:=by simp;omega
 have d2:decide ((20:Int)<s.size)=false:=by simp;omega
 by_cases h2:isL (s[0].toNat:Int)=true
 ·have U:Hid (isL (s[0].toNat:Int)=true):=h2;go_enter Tryz.func96,Tryz.ntmps96;go_wp2_with (go_at_call 139;refine (zej _ _).mono ?_;rintro e w' ⟨rfl,rfl⟩);clear h2
  go_loop [3] (fun i=>∃ k:Nat,1<=k/\k<=s.size/\i=.int .i64 k/\(s.data.toList.take k).all zdW=true) (fun i=>s.size - (intOf i).toNat)
  case atStart=>exact ⟨1,by omega,by omega,rfl,zdn (k:=0) hp (by simp) (zl3 U.out)⟩
  case round=>
   obtain ⟨k,ab,hk,rfl,E⟩:=hrel;have HA:Hid ((s.data.toList.take k).all zdW=true):=E;clear E;by_cases I:k<s.size
   ·obtain ⟨Z⟩:Nonempty (Hid (isC (s[k].toNat:Int)=(isL (s[k].toNat:Int) || isD (s[k].toNat:Int) || !((s[k].toNat:Int) != 45)))):=⟨zse _⟩
    cases X:isL (s[k].toNat:Int) <;> cases hD:isD (s[k].toNat:Int) <;> cases hM:((s[k].toNat:Int) != 45)
    all_goals
     go_wp2_with (first | (go_at_call 139;refine (zej _ _).mono ?_;rintro e w' ⟨rfl,rfl⟩) | (go_at_call 140;refine (ze4 _ _).mono ?_;rintro e w' ⟨rfl,rfl⟩))
     first
     | (go_round
        case rel=>exact ⟨k+1,by omega,by omega,by go_num,zdn I HA.out (by rw[Z.out,X,hD,hM];rfl)⟩
        case measure=>simp[intOf];omega)
     | (go_ret
        exact ⟨zah (zjY I (by rw[Z.out,X,hD,hM];rfl)).symm,rfl⟩)
   go_wp2;go_ret;exact ⟨zah (zhD hp (by omega) U.out (by omega) HA.out).symm,rfl⟩
 have O:isL (s[0].toNat:Int)=false:=by simpa using h2
 have G:Hid (gSym s.data.toList=false):=zjV (by rw[zih s hp];exact O);clear h2;go_enter Tryz.func96,Tryz.ntmps96;go_wp2_with (go_at_call 139;refine (zej _ _).mono ?_;rintro e w' ⟨rfl,rfl⟩);go_ret;exact ⟨zah G.out.symm,rfl⟩
theorem zbp(s:ByteArray)(w:World)(hs:s.size<=maxLen) :
  Calls Tryz.prog 64 #[.string s] w fun e w'=>e=.returned (.bool (gSym s.data.toList))/\w'=w:=by
 unfold maxLen at hs;by_cases h0:s.size<1
 ·have G:Hid (gSym s.data.toList=false):=zew (s:=s.data.toList) (by rw[zcn];omega);have t1:(s.size:Int)<1:=by omega
  go_enter Tryz.func64,Tryz.ntmps64;go_wp2;go_ret;exact ⟨zah G.out.symm,rfl⟩
 by_cases h1:20<s.size
 ·have G:Hid (gSym s.data.toList=false):=zjX (s:=s.data.toList) (by rw[zcn];omega);have t1:(20:Int)<s.size:=by omega
  go_enter Tryz.func64,Tryz.ntmps64;go_wp2;go_ret;exact ⟨zah G.out.symm,rfl⟩
 have hp:0<s.size:=by omega
 have d1:decide ((s.size:Int)<1)=false:=by simp;omega
 have d2:decide ((20:Int)<s.size)=false:=by simp;omega
 by_cases h2:isL (s[0].toNat:Int)=true
 ·have H2:Hid (isL (s[0].toNat:Int)=true):=h2;simp only[isL,Bool.and_eq_true,decide_eq_true_eq]at h2;obtain ⟨Z,X⟩:=h2;have d3:decide ((s[0].toNat:Int)<97)=false:=by simp;omega
  have d4:decide ((122:Int)<(s[0].toNat:Int))=false:=by simp;omega
  go_enter Tryz.func64,Tryz.ntmps64;go_wp2;clear Z X d3 d4
  go_loop [3] (fun i=>∃ k:Nat,k<=s.size/\i=.int .i64 k/\(s.data.toList.take k).all zdW=true) (fun i=>s.size - (intOf i).toNat)
  case atStart=>exact ⟨0,by omega,rfl,by simp⟩
  case round=>
   obtain ⟨k,hk,rfl,I⟩:=hrel;have HA:Hid ((s.data.toList.take k).all zdW=true):=I;clear I;by_cases U:k<s.size
   ·rcases (show (s[k].toNat:Int)<45∨(44<(s[k].toNat:Int)/\(s[k].toNat:Int)<46)∨(45<(s[k].toNat:Int)/\(s[k].toNat:Int)<48)∨(48<=(s[k].toNat:Int)/\(s[k].toNat:Int)<=57)∨(57<(s[k].toNat:Int)/\(s[k].toNat:Int)<97)∨(97<=(s[k].toNat:Int)/\(s[k].toNat:Int)<=122)∨122<(s[k].toNat:Int) from by omega) with hr | ⟨hr,E⟩ | ⟨hr,E⟩ | ⟨hr,E⟩ | ⟨hr,E⟩ | ⟨hr,E⟩ | hr
    all_goals
     first
     | have he:((s[k].toNat:Int)==45)=false:=(by simp;omega)
     | have he:((s[k].toNat:Int)==45)=true:=(by simp;omega)
     first
     | have hf:decide ((s[k].toNat:Int)<=57)=false:=(by simp;omega)
     | have hf:decide ((s[k].toNat:Int)<=57)=true:=(by simp;omega)
     first
     | have hg:decide ((s[k].toNat:Int)<=122)=false:=(by simp;omega)
     | have hg:decide ((s[k].toNat:Int)<=122)=true:=(by simp;omega)
     go_wp2
     first
     | (go_round
        case rel=>exact ⟨k+1,by omega,by go_num,zdn U HA.out (zsa (by omega))⟩
        case measure=>simp[intOf];omega)
     | (go_ret
        exact ⟨zah (zjY U (zqG (by omega))).symm,rfl⟩)
   go_wp2;go_ret;exact ⟨zah (zhD hp (by omega) H2.out (by omega) HA.out).symm,rfl⟩
 have O:isL (s[0].toNat:Int)=false:=by simpa using h2
 have G:Hid (gSym s.data.toList=false):=zjV (by rw[zih s hp];exact O);clear h2;have h3:(s[0].toNat:Int)<97∨(97<=(s[0].toNat:Int)/\122<(s[0].toNat:Int)):=by
  simp only[isL,Bool.and_eq_false_iff,decide_eq_false_iff_not]at O;omega
 rcases h3 with h3 | ⟨h3,h4⟩
 all_goals
  clear O;go_enter Tryz.func64,Tryz.ntmps64;go_wp2;go_ret;exact ⟨zah G.out.symm,rfl⟩
end Go.Proofs.YtjjjagepnnbebaaGreatDoor
