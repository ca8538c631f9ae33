/-
  OUR OWN TEXT. Dw6, Dw10h, Dw7, one behind the other.
-/
import Derived.Test.YtmmdlgjmplddiaaGreatKbk
import Derived.Test.YtmmdlgjmplddiaaGreatKaj
import Derived.Deep.DeepCutAuto
namespace Go.Proofs.YtmmdlgjmplddiaaGreat
open Go.RowKit
theorem zig {w w':World}{base g:Nat}{e:TypeId}{m:Nat}{v:Value}{n:Nat}{xs:List Value} (h:w.ownsRow base e m v n xs) (hr:Rs g w w') (hg:g<base):w'.ownsRow base e m v n xs:=
 zae h fun k hk=>hr.1.block k (h.lt k hk).2 (fun e=>by injection e with e;have:=(h.lt k hk).1;omega)
theorem zoN {w w':World}{base g:Nat}{e:TypeId}{m:Nat}{v:Value}{n:Nat}{xs:List Value} (h:w.ownsRow base e m v n xs) (hr:Rs g w w') (hg:Rdr w g) (hne:e≠64):w'.ownsRow base e m v n xs:=
 zae h fun k hk=>hr.1.block k (h.lt k hk).2 (fun e=>by
  injection e with e
  subst e
  obtain ⟨c,hc⟩:=zai h hk
  obtain ⟨_,_,_,_,h1,_⟩:=hg
  exact zaA hc h1 hne)
theorem Rs.grown {g:Nat}{row:Option Nat}{u v w:World} (h:Rs g u v) (hg:v.grownBy w row) (hr:∀ k,row=some k→u.heap.size≤k) (hgu:g<u.heap.size):Rs g u w:=
 ⟨⟨h.1.rest.grown hg (Nat.zero_le _) (fun _ _=>Nat.zero_le _),fun k hk hne=>(hg.block k (Nat.lt_of_lt_of_le hk h.1.rest.size) (fun e=>by have:=hr k e.symm;omega)).trans (h.1.block k hk hne)⟩,h.2.old ((Below.refl _ _).grown hg (by have:=h.1.rest.size;omega) (fun k hk=>by have:=hr k hk;omega))⟩
abbrev PtV:=Pt × Value
def pcells (x:PtV):List Value:=[.bool x.1.neg,.string x.1.cls,x.2]
theorem zj2 (x:PtV) (h:x.2.oneCell'=true):∀ u∈pcells x,u.oneCell'=true:=by
 intro u hu
 simp [pcells] at hu
 rcases hu with rfl | rfl | rfl
 ·rfl
 ·rfl
 ·exact h
def PtX (w:World) (base:Nat) (x:PtV):Prop:=(∃ a c,x.2=.slice a x.1.terms.length c)∧w.ownsRow base 115 6 x.2 x.1.terms.length (x.1.terms.flatMap za2)∧GCl x.1.cls∧x.1.terms.length≤3∧∀ t∈x.1.terms,TmSm t
def PO (w:World) (base:Nat) (a:Option Addr) (c:Nat) (L:List PtV):Prop:=w.ownsRow base 38 3 (.slice a L.length c) L.length (L.flatMap pcells)∧∀ x∈L,PtX w base x
theorem PO.nil (w:World) (base:Nat):PO w base none 0 []:=⟨World.ownsRow_nil _ _ _ _,fun x hx=>by simp at hx⟩
theorem PtX.rs {w w':World}{base g:Nat}{x:PtV} (h:PtX w base x) (hr:Rs g w w') (hg:g<base):PtX w' base x:=⟨h.1,zig h.2.1 hr hg,h.2.2⟩
theorem PO.rs {w w':World}{base g:Nat}{a:Option Addr}{c:Nat}{L:List PtV} (h:PO w base a c L) (hr:Rs g w w') (hg:g<base):PO w' base a c L:=⟨zig h.1 hr hg,fun x hx=>(h.2 x hx).rs hr hg⟩
theorem PtX.bel {w w':World}{base:Nat}{x:PtV} (h:PtX w base x) (hb:Below w.heap.size w w'):PtX w' base x:=⟨h.1,zag h.2.1 hb,h.2.2⟩
theorem PO.bel {w w':World}{base:Nat}{a:Option Addr}{c:Nat}{L:List PtV} (h:PO w base a c L) (hb:Below w.heap.size w w'):PO w' base a c L:=⟨zag h.1 hb,fun x hx=>(h.2 x hx).bel hb⟩
theorem PtX.grown {w w':World}{base:Nat}{t:TypeId}{x:PtV}{row:Option Nat} (h:PtX w base x) (hg:w.grownBy w' row) (ht:∀ k,row=some k→∃ c,w.heap[k]?=some (.cells c t (0,0))) (hne:t≠115):PtX w' base x:=⟨h.1,zbh h.2.1 hg ht hne,h.2.2⟩
theorem PtX.set {w:World}{base b o:Nat}{t:TypeId}{x:PtV}{v:Value}{c:Array Value}{fr:Nat × Nat} (h:PtX w base x) (hb:w.heap[b]?=some (.cells c t fr)) (hne:t≠115):PtX (w.setCell ⟨b,o,none⟩ v) base x:=⟨h.1,zbB h.2.1 hb hne,h.2.2⟩
theorem PO.set {w:World}{base b o:Nat}{t:TypeId}{a:Option Addr}{c':Nat}{L:List PtV}{v:Value}{c:Array Value}{fr:Nat × Nat} (h:PO w base a c' L) (hb:w.heap[b]?=some (.cells c t fr)) (hne:t≠115) (hne2:t≠38):PO (w.setCell ⟨b,o,none⟩ v) base a c' L:=⟨zbB h.1 hb hne2,fun x hx=>(h.2 x hx).set hb hne⟩
theorem PO.snoc {w w':World}{base:Nat}{a a':Option Addr}{c c':Nat}{L:List PtV}{x:PtV} (h:PO w base a c L) (hx:PtX w base x) (ho:w'.ownsRow base 38 3 (.slice a' (L.length+1) c') (L.length+1) (L.flatMap pcells ++ pcells x)) (hg:w.grownBy w' (Value.slice a L.length c).ownBlock):PO w' base a' c' (L ++ [x]):=by
 refine ⟨by simpa using ho,fun y hy=>?_⟩
 have hy':PtX w base y:=by
  rcases List.mem_append.1 hy with hy | hy
  ·exact h.2 y hy
  ·simp at hy
   exact hy ▸ hx
 exact hy'.grown (t:=38) hg (fun k hk=>zai h.1 hk) (by decide)
def SO (K:List ByteArray) (w:World) (base:Nat) (a:Option Addr) (n c:Nat):Prop:=n≤1000∧∃ ks:List ByteArray,(ks=K∧ks.length=n)∧(∀ s∈ks,GNm s)∧w.ownsRow base 9 1 (.slice a n c) n (ks.map Value.string)
theorem SO.rs {K:List ByteArray}{w w':World}{base g:Nat}{a:Option Addr}{n c:Nat} (h:SO K w base a n c) (hr:Rs g w w') (hg:g<base):SO K w' base a n c:=by
 obtain ⟨h0,ks,h1,h2,h3⟩:=h
 exact ⟨h0,ks,h1,h2,zig h3 hr hg⟩
theorem SO.on {K:List ByteArray}{w:World}{base g:Nat}{a:Option Addr}{n c:Nat} (h:SO K w base a n c) (hg:g<base):zeK K w g a n:=by
 obtain ⟨h0,ks,h1,h2,h3⟩:=h
 refine ⟨by omega,fun j hj=>?_⟩
 have hjk:j<ks.length:=by have:=h1.2;omega
 obtain ⟨k,rfl,hb,hc,_⟩:=zam h3 (j:=j) (x:=.string ks[j]) (by simp [hjk])
 exact ⟨k,0,ks[j],rfl,by omega,⟨(h2 _ (List.getElem_mem hjk)).1,(h2 _ (List.getElem_mem hjk)).2,by rw [← h1.1];exact List.getElem_mem hjk⟩,by rw [Nat.zero_add];exact hc⟩
theorem SO.q {K:List ByteArray}{w:World}{base g b B:Nat}{t:TypeId}{a:Option Addr}{n c:Nat}{cb:Array Value}{fr:Nat × Nat} (h:SO K w base a n c) (hg:g<base) (hb:w.heap[b]?=some (.cells cb t fr)) (hne:t≠9) (hB:w.heap.size≤B):zfE K w g b B a n:=by
 obtain ⟨h0,ks,h1,h2,h3⟩:=h
 refine ⟨by omega,fun j hj=>?_⟩
 have hjk:j<ks.length:=by have:=h1.2;omega
 obtain ⟨k,rfl,hb',hc,_⟩:=zam h3 (j:=j) (x:=.string ks[j]) (by simp [hjk])
 obtain ⟨c',hc'⟩:=zai h3 (k:=k) rfl
 refine ⟨k,0,ks[j],rfl,by omega,fun e=>?_,?_,⟨(h2 _ (List.getElem_mem hjk)).1,(h2 _ (List.getElem_mem hjk)).2,by rw [← h1.1];exact List.getElem_mem hjk⟩,by rw [Nat.zero_add];exact hc⟩
 ·subst e
  exact zaA hb hc' hne
 ·have:=zab hc'
  omega
def Same (T:List TypeId) (base:Nat) (w w':World):Prop:=∀ k t c,base≤k→w.heap[k]?=some (.cells c t (0,0))→t∈T→w'.heap[k]?=w.heap[k]?
theorem zb2 {T:List TypeId}{base:Nat}{w w':World}{e:TypeId}{m:Nat}{v:Value}{n:Nat}{xs:List Value} (h:w.ownsRow base e m v n xs) (hs:Same T base w w') (he:e∈T):w'.ownsRow base e m v n xs:=by
 refine zae h fun k hk=>?_
 obtain ⟨c,hc⟩:=zai h hk
 exact hs k e c (h.lt k hk).1 hc he
theorem Same.bel {T:List TypeId}{base:Nat}{w w':World} (hb:Below w.heap.size w w'):Same T base w w':=fun k _ _ _ hk _=>hb.block k (zab hk)
theorem Same.rs {T:List TypeId}{base g:Nat}{w w':World} (hr:Rs g w w') (hg:g<base):Same T base w w':=fun k _ _ hb hk _=>hr.1.block k (zab hk) (fun e=>by injection e with e;omega)
theorem Same.rsT {T:List TypeId}{base g:Nat}{w w':World} (hr:Rs g w w') (hg:Rdr w g) (hT:64 ∉ T):Same T base w w':=fun k t c hb hk ht=>hr.1.block k (zab hk) (fun e=>by
 injection e with e
 subst e
 obtain ⟨_,_,_,_,h1,_⟩:=hg
 refine zaA hk h1 (fun e=>hT (e ▸ ht)))
theorem Same.grown {T:List TypeId}{base:Nat}{t:TypeId}{w w':World}{row:Option Nat} (hg:w.grownBy w' row) (ht:∀ k,row=some k→∃ c,w.heap[k]?=some (.cells c t (0,0))) (hT:t ∉ T):Same T base w w':=fun k t' c _ hk ht'=>hg.block k (zab hk) (fun e=>by
 obtain ⟨c',hc'⟩:=ht k e.symm
 exact zaA hk hc' (fun e=>hT (e ▸ ht')))
theorem Same.kept {T:List TypeId}{base d:Nat}{t:TypeId}{w w':World}{c:Array Value}{fr:Nat × Nat} (hk:∀ k,k≠d→k<w.heap.size→w'.heap[k]?=w.heap[k]?) (hd:w.heap[d]?=some (.cells c t fr)) (hT:t ∉ T):Same T base w w':=fun k t' c' _ h ht'=>hk k (fun e=>by
 subst e
 exact zaA h hd (fun e=>hT (e ▸ ht'))) (zab h)
theorem Same.trans {T:List TypeId}{base:Nat}{u v w:World} (h:Same T base u v) (h':Same T base v w):Same T base u w:=fun k t c hb hk ht=>(h' k t c hb ((h k t c hb hk ht).trans hk) ht).trans (h k t c hb hk ht)
theorem Same.less {T T':List TypeId}{base:Nat}{u v:World} (h:Same T base u v) (hT:∀ t∈T',t∈T):Same T' base u v:=fun k t c hb hk ht=>h k t c hb hk (hT t ht)
abbrev AcV:=Ac × Value
def acells (x:AcV):List Value:=[.int .i64 x.1.kind,.int .i64 x.1.k,.string x.1.cls,x.2]
def AcP (w:World) (base:Nat) (x:AcV):Prop:=(∃ a c,x.2=.slice a x.1.args.length c)∧w.ownsRow base 3 1 x.2 x.1.args.length (icells x.1.args)
def AcO (w:World) (base:Nat) (a:Option Addr) (c:Nat) (Y:List AcV):Prop:=w.ownsRow base 200 4 (.slice a Y.length c) Y.length (Y.flatMap acells)∧∀ x∈Y,AcP w base x
theorem AcO.nil (w:World) (base:Nat):AcO w base none 0 []:=⟨World.ownsRow_nil _ _ _ _,fun x hx=>by simp at hx⟩
theorem AcO.same {T:List TypeId}{base:Nat}{w w':World}{a:Option Addr}{c:Nat}{Y:List AcV} (h:AcO w base a c Y) (hs:Same T base w w') (h1:200∈T) (h2:3∈T):AcO w' base a c Y:=⟨zb2 h.1 hs h1,fun x hx=>⟨(h.2 x hx).1,zb2 (h.2 x hx).2 hs h2⟩⟩
theorem AcO.bel {base:Nat}{w w':World}{a:Option Addr}{c:Nat}{Y:List AcV} (h:AcO w base a c Y) (hb:Below w.heap.size w w'):AcO w' base a c Y:=h.same (T:=[200,3]) (Same.bel hb) (by decide) (by decide)
theorem AcO.rs {base g:Nat}{w w':World}{a:Option Addr}{c:Nat}{Y:List AcV} (h:AcO w base a c Y) (hr:Rs g w w') (hg:g<base):AcO w' base a c Y:=h.same (T:=[200,3]) (Same.rs hr hg) (by decide) (by decide)
theorem AcO.turned {base d:Nat}{w w':World}{a:Option Addr}{c:Nat}{Y:List AcV}{cd:Array Value}{fr:Nat × Nat} (h:AcO w base a c Y) (ht:Turned w w' d) (hd:∀ k,(Value.slice a Y.length c).ownBlock=some k→k≠d) (hb:w.heap[d]?=some (.cells cd 200 fr)):AcO w' base a c Y:=
 ⟨zae h.1 (fun k hk=>ht.block k (hd k hk)),fun x hx=>⟨(h.2 x hx).1,zb2 (h.2 x hx).2 (T:=[3]) (Same.kept (fun k hk _=>ht.block k hk) hb (by decide)) (by decide)⟩⟩
theorem AcO.qs {base g b:Nat}{o:Option Nat}{w w':World}{a:Option Addr}{c:Nat}{Y:List AcV} (h:AcO w base a c Y) (hq:Qs g b o w w') (hg:g<base) (hb:b<base) (ht:∀ k,o=some k→∃ c,w.heap[k]?=some (.cells c 240 (0,0))):AcO w' base a c Y:=
 ⟨zmh h.1 hq hg hb ht (by decide),fun x hx=>⟨(h.2 x hx).1,zmh (h.2 x hx).2 hq hg hb ht (by decide)⟩⟩
structure RuX where
 nm:ByteArray
 sal:Int
 pv:Value
 ev:Value
 av:Value
 pats:List PtV
 es:List Ex
 acts:List AcV
def RuX.ru (x:RuX):Ru:=⟨x.nm,x.sal,x.pats.map Prod.fst,x.es,x.acts.map Prod.fst⟩
def rcells (x:RuX):List Value:=[.string x.nm,.int .i64 x.sal,x.pv,x.ev,x.av]
def rTys:List TypeId:=[38,115,240,200,3]
def RuP (w:World) (base:Nat) (x:RuX):Prop:=(∃ a c,x.pv=.slice a x.pats.length c∧PO w base a c x.pats)∧(∃ a c,x.ev=.slice a x.es.length c∧w.ownsRow base 240 8 (.slice a x.es.length c) x.es.length (x.es.flatMap zba)∧∀ e∈x.es,ExSm e)∧∃ a c,x.av=.slice a x.acts.length c∧AcO w base a c x.acts
theorem PO.same {T:List TypeId}{base:Nat}{w w':World}{a:Option Addr}{c:Nat}{L:List PtV} (h:PO w base a c L) (hs:Same T base w w') (h1:38∈T) (h2:115∈T):PO w' base a c L:=⟨zb2 h.1 hs h1,fun x hx=>⟨(h.2 x hx).1,zb2 (h.2 x hx).2.1 hs h2,(h.2 x hx).2.2⟩⟩
theorem RuP.same {base:Nat}{w w':World}{x:RuX} (h:RuP w base x) (hs:Same rTys base w w'):RuP w' base x:=by
 obtain ⟨⟨a,c,e,h1⟩,⟨a2,c2,e2,h2,h3⟩,a4,c4,e4,h4⟩:=h
 exact ⟨⟨a,c,e,h1.same hs (by decide) (by decide)⟩,⟨a2,c2,e2,zb2 h2 hs (by decide),h3⟩,a4,c4,e4,h4.same hs (by decide) (by decide)⟩
theorem RuP.lower {base base':Nat}{w:World}{x:RuX} (h:RuP w base x) (hb:base'≤base):RuP w base' x:=by
 obtain ⟨⟨a,c,e,h1⟩,⟨a2,c2,e2,h2,h3⟩,a4,c4,e4,h4⟩:=h
 exact ⟨⟨a,c,e,zan h1.1 hb,fun y hy=>⟨(h1.2 y hy).1,zan (h1.2 y hy).2.1 hb,(h1.2 y hy).2.2⟩⟩,⟨a2,c2,e2,zan h2 hb,h3⟩,a4,c4,e4,zan h4.1 hb,fun y hy=>⟨(h4.2 y hy).1,zan (h4.2 y hy).2 hb⟩⟩
def RO (w:World) (base:Nat) (a:Option Addr) (c:Nat) (M:List RuX):Prop:=w.ownsRow base 35 5 (.slice a M.length c) M.length (M.flatMap rcells)∧∀ x∈M,RuP w base x
theorem RO.nil (w:World) (base:Nat):RO w base none 0 []:=⟨World.ownsRow_nil _ _ _ _,fun x hx=>by simp at hx⟩
theorem RO.same {base:Nat}{w w':World}{a:Option Addr}{c:Nat}{M:List RuX} (h:RO w base a c M) (hs:Same (35 :: rTys) base w w'):RO w' base a c M:=⟨zb2 h.1 hs (by decide),fun x hx=>(h.2 x hx).same (hs.less (fun t ht=>List.mem_cons_of_mem _ ht))⟩
theorem RO.lower {base base':Nat}{w:World}{a:Option Addr}{c:Nat}{M:List RuX} (h:RO w base a c M) (hb:base'≤base):RO w base' a c M:=⟨zan h.1 hb,fun x hx=>(h.2 x hx).lower hb⟩
theorem RO.bel {base:Nat}{w w':World}{a:Option Addr}{c:Nat}{M:List RuX} (h:RO w base a c M) (hb:Below w.heap.size w w'):RO w' base a c M:=h.same (Same.bel hb)
theorem RO.rs {base g:Nat}{w w':World}{a:Option Addr}{c:Nat}{M:List RuX} (h:RO w base a c M) (hr:Rs g w w') (hg:g<base):RO w' base a c M:=h.same (Same.rs hr hg)
theorem RO.rsT {base g:Nat}{w w':World}{a:Option Addr}{c:Nat}{M:List RuX} (h:RO w base a c M) (hr:Rs g w w') (hg:Rdr w g):RO w' base a c M:=h.same (Same.rsT hr hg (by decide))
end Go.Proofs.YtmmdlgjmplddiaaGreat
namespace Go.Proofs.YtmmdlgjmplddiaaGreat
open Go.RowKit
def MOk (M:List RuX):Prop:=∀ i x,M[i]?=some x→DRu i x.ru ∧ -9223372036854775808≤x.sal∧x.sal≤9223372036854775807
theorem MOk.snoc {M:List RuX}{x:RuX} (h:MOk M) (hx:DRu M.length x.ru) (hs:-9223372036854775808≤x.sal∧x.sal≤9223372036854775807):MOk (M ++ [x]):=by
 intro i y hy
 by_cases hi:i<M.length
 ·rw [List.getElem?_append_left hi] at hy
  exact h i y hy
 ·have hil:=(List.getElem?_eq_some_iff.1 hy).1
  simp at hil
  obtain rfl:i=M.length:=by omega
  simp at hy
  subst hy
  exact ⟨hx,hs⟩
theorem RuP.slices {w:World}{base:Nat}{x:RuX} (h:RuP w base x):(∃ a n c,x.pv=.slice a n c)∧(∃ a n c,x.ev=.slice a n c)∧∃ a n c,x.av=.slice a n c:=by
 obtain ⟨⟨a,c,e,_⟩,⟨a2,c2,e2,_⟩,a3,c3,e3,_⟩:=h
 exact ⟨⟨a,_,c,e⟩,⟨a2,_,c2,e2⟩,a3,_,c3,e3⟩
end Go.Proofs.YtmmdlgjmplddiaaGreat
namespace Go.Proofs.YtmmdlgjmplddiaaGreat
open Go.RowKit
attribute [local go_sem ↓] Go.wp_at_zero Go.wp_at_succ
theorem zgm:(Tryz.prog.info? 109).map (fun i=>(i.zero,i.size,i.bytes))=some (some (.agg #[.int .i64 0,.int .i64 0,.string ⟨#[]⟩]),3,32):=by kernel_rfl
def FB (w:World) (fb B:Nat) (tag:Int) (cls:ByteArray) (a:Option Addr) (c:Nat) (vs:List V):Prop:=
 w.heap[fb]?=some (.cells #[.int .i64 tag,.string cls,.slice a vs.length c] 42 (0,0))∧w.ownsRow B 109 3 (.slice a vs.length c) vs.length (vs.flatMap V.cells)∧∀ v∈vs,VSm v
section
variable {w w' : World} {fb B : Nat} {tag : Int} {cls : ByteArray} {a : Option Addr} {c : Nat} {vs : List V}
theorem FB.rs {g:Nat} (h:FB w fb B tag cls a c vs) (hr:Rs g w w') (hf:fb≠g) (hg:g<B):FB w' fb B tag cls a c vs:=⟨zaC hr h.1 hf,zig h.2.1 hr hg,h.2.2⟩
theorem FB.bel (h:FB w fb B tag cls a c vs) (hb:Below w.heap.size w w'):FB w' fb B tag cls a c vs:=⟨(hb.block fb (zab h.1)).trans h.1,zag h.2.1 hb,h.2.2⟩
theorem FB.turned {d:Nat} (h:FB w fb B tag cls a c vs) (ht:Turned w w' d) (hd:d≠fb) (ho:∀ k,(Value.slice a vs.length c).ownBlock=some k→k≠d):FB w' fb B tag cls a c vs:=
 ⟨(ht.block fb (Ne.symm hd)).trans h.1,zae h.2.1 (fun k hk=>ht.block k (ho k hk)),h.2.2⟩
theorem FB.cells (h:FB w fb B tag cls a c vs):w.cell? ⟨fb,0,none⟩=some (.int .i64 tag)∧w.cell? ⟨fb,1,none⟩=some (.string cls)∧w.cell? ⟨fb,2,none⟩=some (.slice a vs.length c):=by
 refine ⟨?_,?_,?_⟩ <;> simp [World.cell?,h.1]
end
theorem zkj {w wt wa w3:World}{fb B g:Nat}{tag:Int}{cls:ByteArray}{a a3:Option Addr}{c c3:Nat}{vs:List V}{v:V} (h:FB wt fb B tag cls a c vs) (hv:VSm v) (hR:Rs g w wt) (hwa:Below wt.heap.size wt wa) (ho:w3.ownsRow B 109 3 (.slice a3 (vs.length+1) c3) (vs.length+1) (vs.flatMap V.cells ++ V.cells v)) (hg:wa.grownBy w3 (Value.slice a vs.length c).ownBlock) (hB:w.heap.size≤B) (hfb:w.heap.size≤fb) (hgw:g<w.heap.size) :
  FB (w3.setCell ⟨fb,2,none⟩ (.slice a3 (vs.length+1) c3)) fb B tag cls a3 c3 (vs ++ [v])∧Rs g w (w3.setCell ⟨fb,2,none⟩ (.slice a3 (vs.length+1) c3)):=by
 have hA:=h.bel hwa
 have e3:=zaI hA.1 hg (fun k hk=>zai hA.2.1 hk) (by decide)
 have hr3:Rs g w w3:=(hR.bel hwa).grown hg (fun k hk=>Nat.le_trans hB (hA.2.1.lt k hk).1) hgw
 refine ⟨⟨?_,?_,?_⟩,hr3.setOwn hfb hgw⟩
 ·have:=zaf (i:=2) e3 (.slice a3 (vs.length+1) c3)
  simpa using this
 ·have:=zbB (o:=2) (x:=.slice a3 (vs.length+1) c3) ho e3 (by decide)
  simpa using this
 ·intro x hx
  rcases List.mem_append.1 hx with h' | h'
  ·exact h.2.2 x h'
  ·simp at h'
   exact h' ▸ hv
theorem zes {wt wa w3:World}{fb B:Nat}{tag:Int}{cls:ByteArray}{a:Option Addr}{c:Nat}{vs:List V} (h:FB wt fb B tag cls a c vs) (hwa:Below wt.heap.size wt wa) (hg:wa.grownBy w3 (Value.slice a vs.length c).ownBlock) :
  w3.cell? ⟨fb,2,none⟩=some (.slice a vs.length c)∧w3.frozen? ⟨fb,2,none⟩=false:=by
 have hA:=h.bel hwa
 have e3:=zaI hA.1 hg (fun k hk=>zai hA.2.1 hk) (by decide)
 exact ⟨by simp [World.cell?,e3],by simp [World.frozen?,e3]⟩
theorem zoM {w:World}{base:Nat}{ta:Option Addr}{tc:Nat}{ts:List Tm} (h:w.ownsRow base 115 6 (.slice ta ts.length tc) ts.length (ts.flatMap za2)) {i:Nat}{t:Tm} (hi:ts[i]?=some t) :
  ∃ k,ta=some ⟨k,0,none⟩∧base≤k∧k<w.heap.size∧w.cell? ⟨k,i * 6,none⟩=some (.int .i64 t.kind)∧w.cell? ⟨k,i * 6+1,none⟩=some (.int .i64 t.op)∧w.cell? ⟨k,i * 6+2,none⟩=some (.string t.var)∧w.cell? ⟨k,i * 6+3,none⟩=some (.int .i64 t.val.kind)∧w.cell? ⟨k,i * 6+4,none⟩=some (.int .i64 t.val.num)∧w.cell? ⟨k,i * 6+5,none⟩=some (.string t.val.sym):=by
 have key:=fun j u (hj:(za2 t)[j]?=some u)=>zam h (za5 (cells:=za2) (m:=6) (fun _=>rfl) ts i t j u hi hj)
 obtain ⟨k,rfl,hb,h0,_⟩:=key 0 _ rfl
 obtain ⟨k1,e1,_,h1,_⟩:=key 1 _ rfl
 obtain ⟨k2,e2,_,h2,_⟩:=key 2 _ rfl
 obtain ⟨k3,e3,_,h3,_⟩:=key 3 _ rfl
 obtain ⟨k4,e4,_,h4,_⟩:=key 4 _ rfl
 obtain ⟨k5,e5,_,h5,_⟩:=key 5 _ rfl
 cases e1
 cases e2
 cases e3
 cases e4
 cases e5
 exact ⟨k,rfl,hb,World.block_lt_of_cell? w ⟨k,_,none⟩ h0,h0,h1,h2,h3,h4,h5⟩
theorem zo0 {w:World}{base:Nat}{a:Option Addr}{c:Nat}{vs:List V} (h:w.ownsRow base 109 3 (.slice a vs.length c) vs.length (vs.flatMap V.cells)) {i:Nat}{v:V} (hi:vs[i]?=some v) :
  ∃ k,a=some ⟨k,0,none⟩∧base≤k∧k<w.heap.size∧w.cell? ⟨k,i * 3,none⟩=some (.int .i64 v.kind)∧w.cell? ⟨k,i * 3+1,none⟩=some (.int .i64 v.num)∧w.cell? ⟨k,i * 3+2,none⟩=some (.string v.sym):=by
 have key:=fun j u (hj:(V.cells v)[j]?=some u)=>zam h (za5 (cells:=V.cells) (m:=3) (fun _=>rfl) vs i v j u hi hj)
 obtain ⟨k,rfl,hb,h0,_⟩:=key 0 _ rfl
 obtain ⟨k1,e1,_,h1,_⟩:=key 1 _ rfl
 obtain ⟨k2,e2,_,h2,_⟩:=key 2 _ rfl
 cases e1
 cases e2
 exact ⟨k,rfl,hb,World.block_lt_of_cell? w ⟨k,_,none⟩ h0,h0,h1,h2⟩
def fV (tag:Int) (cls:ByteArray) (x:Value):Value:=.agg #[.int .i64 tag,.string cls,x]
theorem zo4:(Tryz.prog.info? 42).map (·.size)=some 3:=by kernel_rfl
set_option maxRecDepth 100000 in
set_option maxHeartbeats 6400000 in
theorem zkh (g base:Nat) (x:PtV) (tag:Int) (w:World) (h:Rdr w g) (hx:PtX w base x) :
  Calls Tryz.prog 85 #[.pointer (some ⟨g,0,none⟩),.agg #[.bool x.1.neg,.string x.1.cls,x.2],.int .i64 tag] w fun e w'=>∃ sa sc vs,e=.returned (fV tag x.1.cls (.slice sa vs.length sc))∧vs.length≤3∧w'.ownsRow w.heap.size 109 3 (.slice sa vs.length sc) vs.length ((vs:List V).flatMap V.cells)∧(∀ v∈vs,VSm v)∧Rs g w w':=by
 obtain ⟨⟨neg,cls,ts⟩,xv⟩:=x
 obtain ⟨⟨ta,tc,hxv⟩,hown,hcl,ht3,hsm⟩:=hx
 dsimp only at hxv hown hcl ht3 hsm ⊢
 subst hxv
 have H:=hidR h
 have HT:=hidR hown
 have HSM:=hidR hsm
 have HRD:=hidR h
 have hlt:=h.lt
 clear h hown hsm
 have HA0:=hidR (fun o1 o2 o3=>(((Below.refl _ _).alloc (Nat.le_refl _) o1).alloc (by simp) o2).alloc (by simp;omega) o3:∀ o1 o2 o3,Below w.heap.size w (((w.alloc o1).alloc o2).alloc o3))
 have HRB:=hidR (fun o1 o2 o3=>((Below.refl ((w.alloc o1).alloc o2).heap.size ((w.alloc o1).alloc o2)).alloc (Nat.le_refl _) o3).block (w.heap.size+1) (by simp) |>.trans (show ((w.alloc o1).alloc o2).heap[w.heap.size+1]?=some o2 from by have:=heap_alloc_new (w.alloc o1) o2;simpa using this))
 have HFB:=hidR (fun o1 o2 o3=>(show (((w.alloc o1).alloc o2).alloc o3).heap[w.heap.size+1+1]?=some o3 from by have:=heap_alloc_new ((w.alloc o1).alloc o2) o3;simpa using this))
 go_enter Tryz.func85,Tryz.ntmps85
 go_wp2_with fail
 go_loopw [18] (fun iv wr=>∃ (i:Nat) (a:Option Addr) (c:Nat) (vs:List V),iv=.int .i64 (i:Int)∧i≤ts.length∧vs.length=i∧FB wr (w.heap.size+1+1) w.heap.size tag cls a c vs∧wr.heap[w.heap.size+1]?=some (.cells #[.int .i64 0,.string ⟨#[]⟩,.slice none 0 0] 42 (0,0))∧Rs g w wr) (fun iv _=>ts.length - (intOf iv).toNat)
 case atStart=>exact ⟨0,none,0,[],rfl,by omega,rfl,⟨HFB.out _ _ _,World.ownsRow_nil _ _ _ _,fun v hv=>by simp at hv⟩,HRB.out _ _ _,Rs.of H.out (HA0.out _ _ _)⟩
 case round=>
  obtain ⟨i,a,c,vs,rfl,hi,hvl,hFB,hRB,hR⟩:=hrel
  have HVL:=hidR hvl
  have hvl3:vs.length≤3:=by omega
  clear hvl
  have HF:=hidR hFB
  have HRb:=hidR hRB
  have HR:=hidR hR
  have hsz:=hR.1.rest.size
  have hfw:w.heap.size+1+1<wr.heap.size:=zab hFB.1
  clear hFB hRB hR HA0 HRB HFB H
  by_cases hit:i<ts.length
  ·obtain ⟨t,hti⟩:∃ t,ts[i]?=some t:=⟨ts[i],by simp [hit]⟩
   obtain ⟨tk,rfl,htk,htkl,c0,c1,c2,c3,c4,c5⟩:=zoM (zoN HT.out HR.out HRD.out (by decide)) hti
   have htv:VSm t.val:=(HSM.out t (List.mem_of_getElem? hti)).2.1
   have hiI:(i:Int)<(ts.length:Int):=by omega
   have HAl:=hidR (fun o=>(Below.refl _ _).alloc (Nat.le_refl _) o:∀ o,Below wr.heap.size wr (wr.alloc o))
   have HRa:=hidR (fun o=>HR.out.2.bel (HAl.out o))
   clear hti
   go_wp2_with fail
   refine (zck g _ (HRa.out _)).mono ?_
   rintro e w1 ⟨v1,hv1,rfl,hr1⟩
   have HTB:=hidR (zaC hr1 (heap_alloc_new _ _) (by omega))
   have hR1:=hidR ((HR.out.bel (HAl.out _)).trans hr1)
   have HF1:=hidR ((HF.out.bel (HAl.out _)).rs hr1 (by omega) (by omega))
   have HRb1:=hidR (zaC hr1 (((HAl.out _).block _ (by omega)).trans HRb.out) (by omega))
   have hs1:wr.heap.size<w1.heap.size:=zab HTB.out
   obtain ⟨t0,t1,t2,t3,t4,t5⟩:=cells6 HTB.out
   have HAm:=hidR (fun o=>(Below.refl _ _).alloc (Nat.le_refl _) o:∀ o,Below w1.heap.size w1 (w1.alloc o))
   have HRm:=hidR (fun o=>hR1.out.2.bel (HAm.out o))
   have HOL1:=hidR (fun k (hk:(Value.slice a vs.length c).ownBlock=some k)=>(HF.out.2.1.lt k hk).2)
   clear hr1 c0 c1 c2 c3 c4 c5 t0 t1 t2 t3 t4 t5 HAl HRa HF HR HRb
   unfold vV
   go_upto_region 6 with fail
   refine zaj ?_
   intro w0 hW0 hvb0'
   have hvb0:=hidR hvb0'
   have HF0:=hidR (HF1.out.bel hW0)
   have hR0:=hidR (hR1.out.bel hW0)
   have HRb0:=hidR ((hW0.block _ (zab HRb1.out)).trans HRb1.out)
   have HTB0:=hidR ((hW0.block _ (zab HTB.out)).trans HTB.out)
   have hw0:=hW0.size
   obtain ⟨t0,t1,t2,t3,t4,t5⟩:=cells6 HTB0.out
   clear hW0 hvb0' HF1 hR1 HRb1 HTB HAm HRm
   have HOL:=hidR (fun k (hk:(Value.slice a vs.length c).ownBlock=some k)=>HOL1.out k hk)
   by_cases hk1:t.kind=1
   ·have hk2:¬ t.kind=2:=by omega
    rw [hk1] at t0
    go_wp2_with fail
    refine (zbb g w0 hR0.out.2).mono ?_
    rintro e w2 ⟨n2,hn2,rfl,hr2⟩
    have hvb2:=hidR (zaC hr2 hvb0.out (by omega))
    have HF2:=hidR (HF0.out.rs hr2 (by omega) (by omega))
    have hR2:=hidR (hR0.out.trans hr2)
    have HRb2:=hidR (zaC hr2 HRb0.out (by omega))
    obtain ⟨t0,t1,t2,t3,t4,t5⟩:w2.cell? ⟨wr.heap.size,0,none⟩=some (.int .i64 t.kind)∧w2.cell? ⟨wr.heap.size,1,none⟩=some (.int .i64 t.op)∧w2.cell? ⟨wr.heap.size,2,none⟩=some (.string t.var)∧w2.cell? ⟨wr.heap.size,3,none⟩=some (.int .i64 t.val.kind)∧w2.cell? ⟨wr.heap.size,4,none⟩=some (.int .i64 t.val.num)∧w2.cell? ⟨wr.heap.size,5,none⟩=some (.string t.val.sym):=cells6 (zaC hr2 HTB0.out (by omega))
    have hw2:=hr2.1.rest.size
    clear hr2 HF0 hvb0 hR0 HRb0 HTB0 t1 t2
    rw [hk1] at t0
    have HT0:=hidR t0
    by_cases hn4:n2 % 4=0
    ·have hn4':¬ (0:Int)<(n2:Int) % 4:=by omega
     have HFt:=hidR HF2.out
     have hRt:=hidR hR2.out
     have HRbt:=hidR HRb2.out
     obtain ⟨q0,q1,q2⟩:=box3 (v:=v1) hvb2.out
     obtain ⟨d0,d1,d2⟩:=HFt.out.cells
     have hst:w.heap.size+1+1<w2.heap.size:=zab HFt.out.1
     have hvt:w1.heap.size<w2.heap.size:=World.block_lt_of_cell? w2 ⟨w1.heap.size,0,none⟩ q0
     have HWt:=hidR (fun o=>(Below.refl _ _).alloc (Nat.le_refl _) o:∀ o,Below w2.heap.size w2 (w2.alloc o))
     have HOWt:=hidR (fun o=>zag HFt.out.2.1 (HWt.out o))
     go_wp2_with (first | (at_builtin;refine zad (by rfl) (.tmp 55) (.tmp 57) 40 (by rfl) w.heap.size 109 _ 3 32 Tryz.underlying40 zgm (by rfl) (by omega) _ vs.length _ (by rfl) (HOWt.out _) (some ⟨_,0,none⟩) 1 1 (by rfl) (V.cells v1) (by rfl) (fun e=>by cases e) (zav _ _ _ _ (by simp)) (V.cells_one v1) (by unfold maxLen;omega) (by omega) (by simp;omega) ?_;intro a3 c3 w3 ho3 hg3 hl3;obtain ⟨k3,z3⟩:=zes HFt.out (HWt.out _) hg3.out) | fail)
     obtain ⟨r1,r2⟩:=zkj HFt.out hv1 hRt.out (HWt.out _) ho3.out hg3.out (Nat.le_refl _) (by omega) hlt
     go_roundw
     case rel=>exact ⟨i+1,a3,c3,vs ++ [v1],by go_num,by omega,by simp [HVL.out],r1,(Below.heap_setCell _ _ _ _ (by simp)).trans (zaI (t':=109) (((HWt.out _).block _ (by omega)).trans HRbt.out) hg3.out (fun k hk=>zai (HOWt.out _) hk) (by decide)),r2⟩
     case measure=>(simp [intOf];omega)
    ·have hn4':(0:Int)<(n2:Int) % 4:=by omega
     go_wp2_with (first | (refine zal (by rfl) 109 (.tmp 10) (.tmp 34) (by rfl) w1.heap.size (V.cells t.val) (by rfl) (by rfl) _ 109 hvb2.out (by rfl) zd5 (V.cells_one _) ?_;intro wt hvt' htt;have tt0:wt.cell? ⟨wr.heap.size,0,none⟩=some (.int .i64 1):=(by rw [htt.out.cell (p:=⟨wr.heap.size,0,none⟩) (by simp;omega)];exact HT0.out);have HFt:=hidR (HF2.out.turned htt.out (by omega) (fun k hk=>by have:=(HF2.out.2.1.lt k hk);have:=HOL.out k hk;omega));have hRt:=hidR (hR2.out.turned htt.out (by omega) hlt);have HRbt:=hidR ((htt.out.block _ (by omega)).trans HRb2.out);obtain ⟨q0,q1,q2⟩:=box3 (v:=t.val) hvt'.out;obtain ⟨d0,d1,d2⟩:=HFt.out.cells;have hst:w.heap.size+1+1<wt.heap.size:=zab HFt.out.1;have hvt:w1.heap.size<wt.heap.size:=World.block_lt_of_cell? wt ⟨w1.heap.size,0,none⟩ q0;have HWt:=hidR (fun o=>(Below.refl _ _).alloc (Nat.le_refl _) o:∀ o,Below wt.heap.size wt (wt.alloc o));have HOWt:=hidR (fun o=>zag HFt.out.2.1 (HWt.out o));clear t0 t3 t4 t5 ) | (at_builtin;refine zad (by rfl) (.tmp 55) (.tmp 57) 40 (by rfl) w.heap.size 109 _ 3 32 Tryz.underlying40 zgm (by rfl) (by omega) _ vs.length _ (by rfl) (HOWt.out _) (some ⟨_,0,none⟩) 1 1 (by rfl) (V.cells t.val) (by rfl) (fun e=>by cases e) (zav _ _ _ _ (by simp)) (V.cells_one t.val) (by unfold maxLen;omega) (by omega) (by simp;omega) ?_;intro a3 c3 w3 ho3 hg3 hl3;obtain ⟨k3,z3⟩:=zes HFt.out (HWt.out _) hg3.out) | fail)
     obtain ⟨r1,r2⟩:=zkj HFt.out htv hRt.out (HWt.out _) ho3.out hg3.out (Nat.le_refl _) (by omega) hlt
     go_roundw
     case rel=>exact ⟨i+1,a3,c3,vs ++ [t.val],by go_num,by omega,by simp [HVL.out],r1,(Below.heap_setCell _ _ _ _ (by simp)).trans (zaI (t':=109) (((HWt.out _).block _ (by omega)).trans HRbt.out) hg3.out (fun k hk=>zai (HOWt.out _) hk) (by decide)),r2⟩
     case measure=>(simp [intOf];omega)
   by_cases hk2:t.kind=2
   ·rw [hk2] at t0
    by_cases hv0:vs.length=0
    ·obtain rfl:vs=[]:=List.eq_nil_of_length_eq_zero hv0
     clear hv0
     obtain ⟨d0,d1,d2⟩:=HF0.out.cells
     have HFt:=hidR HF0.out
     have hRt:=hidR hR0.out
     have HRbt:=hidR HRb0.out
     obtain ⟨q0,q1,q2⟩:=box3 (v:=v1) hvb0.out
     obtain ⟨d0,d1,d2⟩:=HFt.out.cells
     have hst:w.heap.size+1+1<w0.heap.size:=zab HFt.out.1
     have hvt:w1.heap.size<w0.heap.size:=World.block_lt_of_cell? w0 ⟨w1.heap.size,0,none⟩ q0
     have HWt:=hidR (fun o=>(Below.refl _ _).alloc (Nat.le_refl _) o:∀ o,Below w0.heap.size w0 (w0.alloc o))
     have HOWt:=hidR (fun o=>zag HFt.out.2.1 (HWt.out o))
     go_wp2_with (first | (at_builtin;refine zad (by rfl) (.tmp 55) (.tmp 57) 40 (by rfl) w.heap.size 109 _ 3 32 Tryz.underlying40 zgm (by rfl) (by omega) _ ([]:List V).length _ (by rfl) (HOWt.out _) (some ⟨_,0,none⟩) 1 1 (by rfl) (V.cells v1) (by rfl) (fun e=>by cases e) (zav _ _ _ _ (by simp)) (V.cells_one v1) (by unfold maxLen;omega) (by omega) (by simp;omega) ?_;intro a3 c3 w3 ho3 hg3 hl3;obtain ⟨k3,z3⟩:=zes HFt.out (HWt.out _) hg3.out) | fail)
     obtain ⟨r1,r2⟩:=zkj HFt.out hv1 hRt.out (HWt.out _) ho3.out hg3.out (Nat.le_refl _) (by omega) hlt
     go_roundw
     case rel=>exact ⟨i+1,a3,c3,([]:List V) ++ [v1],by go_num,by omega,by simp [HVL.out],r1,(Below.heap_setCell _ _ _ _ (by simp)).trans (zaI (t':=109) (((HWt.out _).block _ (by omega)).trans HRbt.out) hg3.out (fun k hk=>zai (HOWt.out _) hk) (by decide)),r2⟩
     case measure=>(simp [intOf];omega)
    ·have hv0':(0:Int)<(vs.length:Int):=by omega
     obtain ⟨d0,d1,d2⟩:=HF0.out.cells
     go_wp2_with fail
     refine (zbb g w0 hR0.out.2).mono ?_
     rintro e w2 ⟨n2,hn2,rfl,hr2⟩
     have hvb2:=hidR (zaC hr2 hvb0.out (by omega))
     have HF2:=hidR (HF0.out.rs hr2 (by omega) (by omega))
     have hR2:=hidR (hR0.out.trans hr2)
     have HRb2:=hidR (zaC hr2 HRb0.out (by omega))
     obtain ⟨t0,t1,t2,t3,t4,t5⟩:w2.cell? ⟨wr.heap.size,0,none⟩=some (.int .i64 t.kind)∧w2.cell? ⟨wr.heap.size,1,none⟩=some (.int .i64 t.op)∧w2.cell? ⟨wr.heap.size,2,none⟩=some (.string t.var)∧w2.cell? ⟨wr.heap.size,3,none⟩=some (.int .i64 t.val.kind)∧w2.cell? ⟨wr.heap.size,4,none⟩=some (.int .i64 t.val.num)∧w2.cell? ⟨wr.heap.size,5,none⟩=some (.string t.val.sym):=cells6 (zaC hr2 HTB0.out (by omega))
     have hw2:=hr2.1.rest.size
     clear hr2 HF0 hvb0 hR0 HRb0 HTB0 t1 t2
     rw [hk2] at t0
     have HT0:=hidR t0
     clear d0 d1 d2
     by_cases hn4:n2 % 2=0
     ·obtain ⟨vf,hvf⟩:∃ v,vs[0]?=some v:=⟨vs[0]'(by omega),by simp⟩
      have hvfs:VSm vf:=HF2.out.2.2 vf (List.mem_of_getElem? hvf)
      obtain ⟨e0,e1,e2⟩:=HF2.out.cells
      obtain ⟨sk,hsk,hskb,hskl,s0,s1,s2⟩:=zo0 HF2.out.2.1 hvf
      subst hsk
      simp only [Nat.zero_mul,Nat.zero_add] at s0 s1 s2
      go_wp2_with (first | (refine zal (by rfl) 109 (.tmp 10) (.tmp 53) (by rfl) w1.heap.size (V.cells vf) (by rfl) (by rfl) _ 109 hvb2.out (by rfl) zd5 (V.cells_one _) ?_;intro wt hvt' htt;have tt0:wt.cell? ⟨wr.heap.size,0,none⟩=some (.int .i64 2):=(by rw [htt.out.cell (p:=⟨wr.heap.size,0,none⟩) (by simp;omega)];exact HT0.out);have HFt:=hidR (HF2.out.turned htt.out (by omega) (fun k hk=>by have:=(HF2.out.2.1.lt k hk);have:=HOL.out k hk;omega));have hRt:=hidR (hR2.out.turned htt.out (by omega) hlt);have HRbt:=hidR ((htt.out.block _ (by omega)).trans HRb2.out);obtain ⟨q0,q1,q2⟩:=box3 (v:=vf) hvt'.out;obtain ⟨d0,d1,d2⟩:=HFt.out.cells;have hst:w.heap.size+1+1<wt.heap.size:=zab HFt.out.1;have hvt:w1.heap.size<wt.heap.size:=World.block_lt_of_cell? wt ⟨w1.heap.size,0,none⟩ q0;have HWt:=hidR (fun o=>(Below.refl _ _).alloc (Nat.le_refl _) o:∀ o,Below wt.heap.size wt (wt.alloc o));have HOWt:=hidR (fun o=>zag HFt.out.2.1 (HWt.out o));clear t0 t3 t4 t5 e0 e1 e2 s0 s1 s2) | (at_builtin;refine zad (by rfl) (.tmp 55) (.tmp 57) 40 (by rfl) w.heap.size 109 _ 3 32 Tryz.underlying40 zgm (by rfl) (by omega) _ vs.length _ (by rfl) (HOWt.out _) (some ⟨_,0,none⟩) 1 1 (by rfl) (V.cells vf) (by rfl) (fun e=>by cases e) (zav _ _ _ _ (by simp)) (V.cells_one vf) (by unfold maxLen;omega) (by omega) (by simp;omega) ?_;intro a3 c3 w3 ho3 hg3 hl3;obtain ⟨k3,z3⟩:=zes HFt.out (HWt.out _) hg3.out) | fail)
      obtain ⟨r1,r2⟩:=zkj HFt.out hvfs hRt.out (HWt.out _) ho3.out hg3.out (Nat.le_refl _) (by omega) hlt
      go_roundw
      case rel=>exact ⟨i+1,a3,c3,vs ++ [vf],by go_num,by omega,by simp [HVL.out],r1,(Below.heap_setCell _ _ _ _ (by simp)).trans (zaI (t':=109) (((HWt.out _).block _ (by omega)).trans HRbt.out) hg3.out (fun k hk=>zai (HOWt.out _) hk) (by decide)),r2⟩
      case measure=>(simp [intOf];omega)
     ·have hn4':¬ (n2:Int) % 2=0:=by omega
      have HFt:=hidR HF2.out
      have hRt:=hidR hR2.out
      have HRbt:=hidR HRb2.out
      obtain ⟨q0,q1,q2⟩:=box3 (v:=v1) hvb2.out
      obtain ⟨d0,d1,d2⟩:=HFt.out.cells
      have hst:w.heap.size+1+1<w2.heap.size:=zab HFt.out.1
      have hvt:w1.heap.size<w2.heap.size:=World.block_lt_of_cell? w2 ⟨w1.heap.size,0,none⟩ q0
      have HWt:=hidR (fun o=>(Below.refl _ _).alloc (Nat.le_refl _) o:∀ o,Below w2.heap.size w2 (w2.alloc o))
      have HOWt:=hidR (fun o=>zag HFt.out.2.1 (HWt.out o))
      go_wp2_with (first | (at_builtin;refine zad (by rfl) (.tmp 55) (.tmp 57) 40 (by rfl) w.heap.size 109 _ 3 32 Tryz.underlying40 zgm (by rfl) (by omega) _ vs.length _ (by rfl) (HOWt.out _) (some ⟨_,0,none⟩) 1 1 (by rfl) (V.cells v1) (by rfl) (fun e=>by cases e) (zav _ _ _ _ (by simp)) (V.cells_one v1) (by unfold maxLen;omega) (by omega) (by simp;omega) ?_;intro a3 c3 w3 ho3 hg3 hl3;obtain ⟨k3,z3⟩:=zes HFt.out (HWt.out _) hg3.out) | fail)
      obtain ⟨r1,r2⟩:=zkj HFt.out hv1 hRt.out (HWt.out _) ho3.out hg3.out (Nat.le_refl _) (by omega) hlt
      go_roundw
      case rel=>exact ⟨i+1,a3,c3,vs ++ [v1],by go_num,by omega,by simp [HVL.out],r1,(Below.heap_setCell _ _ _ _ (by simp)).trans (zaI (t':=109) (((HWt.out _).block _ (by omega)).trans HRbt.out) hg3.out (fun k hk=>zai (HOWt.out _) hk) (by decide)),r2⟩
      case measure=>(simp [intOf];omega)
   ·have HFt:=hidR HF0.out
    have hRt:=hidR hR0.out
    have HRbt:=hidR HRb0.out
    obtain ⟨q0,q1,q2⟩:=box3 (v:=v1) hvb0.out
    obtain ⟨d0,d1,d2⟩:=HFt.out.cells
    have hst:w.heap.size+1+1<w0.heap.size:=zab HFt.out.1
    have hvt:w1.heap.size<w0.heap.size:=World.block_lt_of_cell? w0 ⟨w1.heap.size,0,none⟩ q0
    have HWt:=hidR (fun o=>(Below.refl _ _).alloc (Nat.le_refl _) o:∀ o,Below w0.heap.size w0 (w0.alloc o))
    have HOWt:=hidR (fun o=>zag HFt.out.2.1 (HWt.out o))
    go_wp2_with (first | (at_builtin;refine zad (by rfl) (.tmp 55) (.tmp 57) 40 (by rfl) w.heap.size 109 _ 3 32 Tryz.underlying40 zgm (by rfl) (by omega) _ vs.length _ (by rfl) (HOWt.out _) (some ⟨_,0,none⟩) 1 1 (by rfl) (V.cells v1) (by rfl) (fun e=>by cases e) (zav _ _ _ _ (by simp)) (V.cells_one v1) (by unfold maxLen;omega) (by omega) (by simp;omega) ?_;intro a3 c3 w3 ho3 hg3 hl3;obtain ⟨k3,z3⟩:=zes HFt.out (HWt.out _) hg3.out) | fail)
    obtain ⟨r1,r2⟩:=zkj HFt.out hv1 hRt.out (HWt.out _) ho3.out hg3.out (Nat.le_refl _) (by omega) hlt
    go_roundw
    case rel=>exact ⟨i+1,a3,c3,vs ++ [v1],by go_num,by omega,by simp [HVL.out],r1,(Below.heap_setCell _ _ _ _ (by simp)).trans (zaI (t':=109) (((HWt.out _).block _ (by omega)).trans HRbt.out) hg3.out (fun k hk=>zai (HOWt.out _) hk) (by decide)),r2⟩
    case measure=>(simp [intOf];omega)
  ·have hie:i=ts.length:=by omega
   have hiI:¬ (i:Int)<(ts.length:Int):=by omega
   obtain ⟨d0,d1,d2⟩:=HF.out.cells
   go_wp2_with (first | (refine zal (by rfl) 42 (.tmp 6) (.tmp 61) (by rfl) (w.heap.size+1) [.int .i64 tag,.string cls,.slice a vs.length c] (by rfl) (by rfl) _ 42 HRb.out (by rfl) zo4 (by intro u hu;simp at hu;rcases hu with rfl | rfl | rfl <;> rfl) ?_;intro w3 hk3 ht3) | fail)
   have f0:w3.cell? ⟨w.heap.size+1,0,none⟩=some (.int .i64 tag):=by simp [World.cell?,hk3.out]
   have f1:w3.cell? ⟨w.heap.size+1,1,none⟩=some (.string cls):=by simp [World.cell?,hk3.out]
   have f2:w3.cell? ⟨w.heap.size+1,2,none⟩=some (.slice a vs.length c):=by simp [World.cell?,hk3.out]
   refine bodyPost_ret (v:=fV tag cls (.slice a vs.length c)) (by simp [results,Tryz.results85,go_sem,f0,f1,f2,fV]) rfl ⟨a,c,vs,rfl,by omega,?_,(fun p q r hh=>HF.out.2.2 (p,q,r) hh),HR.out.turned ht3.out (by omega) hlt⟩
   refine zae HF.out.2.1 (fun k hk=>ht3.out.block k (fun e=>?_))
   obtain ⟨cc,hcc⟩:=zai HF.out.2.1 hk
   subst e
   exact zaA hcc HRb.out (by decide)
end Go.Proofs.YtmmdlgjmplddiaaGreat
