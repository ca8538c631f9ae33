/-
  OUR OWN TEXT. Mo0, Og, one behind the other.
-/
import Derived.Test.YtjjjagepnnbebaaGreatDoorKac
namespace Go.Proofs.YtjjjagepnnbebaaGreatDoor
open Go.RowKit
structure MkO (b:Option Nat) (w w':World):Prop where
 rest:Below 0 w w'
 block:∀ g,g<w.heap.size->b≠some g->w'.heap[g]?=w.heap[g]?
theorem MkO.refl(b:Option Nat)(w:World):MkO b w w:=⟨Below.refl _ _,fun _ _ _=>rfl⟩
theorem MkO.trans{b:Option Nat}{u v w:World}(h:MkO b u v)(k:MkO b v w):MkO b u w:=
 ⟨h.rest.trans k.rest,fun g hg hs=>(k.block g (Nat.lt_of_lt_of_le hg h.rest.size) hs).trans (h.block g hg hs)⟩
theorem MkO.of_below{b:Option Nat}{u v:World}(h:Below u.heap.size u v):MkO b u v:=⟨h.mono (Nat.zero_le _),fun g hg _=>h.block g hg⟩
theorem MkO.set{w:World}{g o:Nat}(x:Value):MkO (some g) w (w.setCell ⟨g,o,none⟩ x):=
 ⟨(Below.refl _ _).setCell (Nat.zero_le _) _,fun h _ hs=>Below.heap_setCell _ _ _ _ (fun e=>hs (by rw[e]))⟩
theorem MkO.below{b:Option Nat}{w w':World}{B:Nat}(h:MkO b w w')(hB:B<=w.heap.size)(hs:∀ g,b=some g->B<=g):Below B w w':=
 ⟨h.rest.os,h.rest.tape,h.rest.output,h.rest.size,fun k hk=>h.block k (by omega) (fun e=>by have:=hs k e;omega)⟩
theorem zas(w:World)(L:List Value)(t:TypeId)(b:Nat)(hb:b=w.heap.size)(E:Addr)(e:some (⟨b,0,none⟩:Addr)=some E)(j:Nat)(u:Value)(h:L[j]?=some u):(w.alloc (.cells L.toArray t)).cell? (E.add j)=some u:=by
 subst hb
 cases e
 rw[Addr.add_mid,Nat.zero_add];have hb:=heap_alloc_new w (.cells L.toArray t);simp only[World.cell?,hb];simpa using h
theorem zaA{w:World}{base:Nat}{e:TypeId}{m:Nat}{v:Value}{n:Nat}{xs:List Value}(h:w.ownsRow base e m v n xs){k:Nat}(hk:v.ownBlock=some k):∃ c,w.heap[k]?=some (.cells c e (0,0)):=by
 rcases h.2 with ⟨rfl,_⟩ | ⟨g,cap,cur,rfl,_,h3,_⟩
 ·simp[Value.ownBlock]at hk
 simp[Value.ownBlock]at hk;subst hk;exact ⟨cur,h3⟩
theorem zcM{w:World}{k:Nat}{c c':Array Value}{t I:TypeId}{f O:Nat × Nat}(h:w.heap[k]?=some (.cells c t f))(E:w.heap[k]?=some (.cells c' I O))(G:t≠I):False:=by
 rw[h]at E;simp at E;exact G E.2.1
theorem zaf{P:World->Prop}{E:World}{o:Obj}(h:∀ G,Below E.heap.size E G->G.heap[E.heap.size]?=some o->P G):P (E.alloc o):=h _ ((Below.refl _ _).alloc (Nat.le_refl _) _) (heap_alloc_new _ _)
theorem zao{w w':World}{base:Nat}{e:TypeId}{m:Nat}{v:Value}{n:Nat}{xs:List Value}(h:w.ownsRow base e m v n xs)(hb:Below w.heap.size w w'):w'.ownsRow base e m v n xs:=
 zar h fun k hk=>hb.block k (h.lt k hk).2
theorem zbF{w w':World}{base:Nat}{e t:TypeId}{m:Nat}{v:Value}{n:Nat}{xs:List Value}{row:Option Nat}(h:w.ownsRow base e m v n xs)(hg:w.grownBy w' row)(ht:∀ k,row=some k->∃ c,w.heap[k]?=some (.cells c t (0,0)))(G:t≠e):w'.ownsRow base e m v n xs:=
 zar h fun k hk=>hg.block k (h.lt k hk).2 (fun e=>by
  obtain ⟨c,I⟩:=ht k e.symm
  obtain ⟨c',E⟩:=zaA h hk
  exact zcM I E G)
theorem zdO{w:World}{base b o:Nat}{e t:TypeId}{m:Nat}{v:Value}{n:Nat}{xs:List Value}{x:Value}{c:Array Value}{O:Nat × Nat}(h:w.ownsRow base e m v n xs)(hb:w.heap[b]?=some (.cells c t O))(G:t≠e):(w.setCell ⟨b,o,none⟩ x).ownsRow base e m v n xs:=
 zar h fun k hk=>Below.heap_setCell _ _ _ _ (fun e=>by
  obtain ⟨c',E⟩:=zaA h hk
  have I:k=b:=e
  subst I
  exact zcM hb E G)
theorem zaL{w w':World}{b:Nat}{t I:TypeId}{c:Array Value}{G:Nat × Nat}{row:Option Nat}(h:w.heap[b]?=some (.cells c t G))(hg:w.grownBy w' row)(ht:∀ k,row=some k->∃ c,w.heap[k]?=some (.cells c I (0,0)))(E:I≠t):w'.heap[b]?=some (.cells c t G):=
 (hg.block b (zab h) (fun e=>by
  obtain ⟨c',O⟩:=ht b e.symm
  exact zcM O h E)).trans h
theorem zli{α:Type}{cells:α->List Value}{m:Nat}(E:∀ x,(cells x).length=m):∀ (xs:List α) (i:Nat) (x:α) (j:Nat) (u:Value),xs[i]?=some x->(cells x)[j]?=some u->(xs.flatMap cells)[i * m+j]?=some u
 | [],i,x,j,u,h,_=>by simp at h
 | y :: r,0,x,j,u,h,hj=>by
  simp at h
  subst h
  have hl:j<(cells y).length:=(List.getElem?_eq_some_iff.1 hj).1
  rw[List.flatMap_cons,Nat.zero_mul,Nat.zero_add,List.getElem?_append_left hl]
  exact hj
 | y :: r,i+1,x,j,u,h,hj=>by
  rw[List.getElem?_cons_succ]at h
  have:=zli E r i x j u h hj
  have e:(i+1) * m=i * m+m:=Nat.succ_mul i m
  rw[List.flatMap_cons,List.getElem?_append_right (by rw[E];omega),show (i+1) * m+j - (cells y).length=i * m+j by rw[E];omega]
  exact this
end Go.Proofs.YtjjjagepnnbebaaGreatDoor
