/-
  OUR OWN TEXT. The model's draws: an expr, behind the exprs of a rule that lies in its box (written by genrn4.py).
-/
import Derived.Test.YtmmdlgjmplddiaaGreatHaa
import Derived.Test.YtmmdlgjmplddiaaGreatDw3m
import Derived.Deep.RegionLaw
namespace Go.Proofs.YtmmdlgjmplddiaaGreat
open Go.RowKit
attribute [local go_sem ↓] Go.wp_at_zero Go.wp_at_succ
theorem zbG {P:Program}{ops:Array Oper}{rest:List Oper}{op:Oper}{a:Act}{w:World}{Q:Exit→Act→World→Prop} (hgd:op.guard=none) (ty:TypeId) (x y:Operand) (ho:op.op=.store ty x y)
  (b o:Nat) (L:List Value) (hx:a.eval x=.pointer (some ⟨b,o,none⟩)) (hy:a.eval y=.agg L.toArray) (c:Array Value) (t:TypeId) (hb:w.heap[b]?=some (.cells c t (0,0)))
  (hs:o+L.length≤c.size) (hi:(P.info? ty).map (·.size)=some L.length) (h1:∀ v∈L,v.oneCell'=true) (N:Array Value) (hN:(c.toList.take o ++ (L ++ c.toList.drop (o+L.length))).toArray=N)
  (h:∀ w',Hid (w'.heap[b]?=some (.cells N t (0,0)))→Hid (Turned w w' b)→wpList P ops Q rest (a.put op.dst undef) w'):wpList P ops Q (op :: rest) a w:=by
 refine wpList_store_mid hgd ty x y ho b o L.toArray hx hy (zfE hb (by simpa using hs)) (by simpa using hi) (all_oneCell_toArray h1) (h _ ?_ (Turned.setCells _ _ _ _))
 show _=_
 rw [← hN]
 exact zbJ hb (o:=o) L hs
set_option maxHeartbeats 400000 in
theorem zjQ (w:World):Calls Tryz.prog 166 #[] w fun e w'=>e=.returned (.slice (some ⟨w.heap.size,0,none⟩) 5 5)∧w'=w.alloc (.cells #[.string ⟨#[43]⟩,.string ⟨#[45]⟩,.string ⟨#[42]⟩,.string ⟨#[47]⟩,.string ⟨#[37]⟩] 9):=by
 go_enter Tryz.func166,Tryz.ntmps166
 go_wp2
 go_ret
 exact ⟨rfl,rfl⟩
def zbb (e:Ex):List Value:=[.int .i64 e.kind,.int .u8 e.op,.string e.var,.int .i64 e.val.kind,.int .i64 e.val.num,.string e.val.sym,.int .i64 e.a,.int .i64 e.b]
def ExSm (e:Ex):Prop:=e.var.size≤20∧VSm e.val∧0≤e.op∧e.op<256
theorem zbD (e:Ex):∀ u∈zbb e,u.oneCell'=true:=by
 intro u hu
 simp [zbb] at hu
 rcases hu with rfl | rfl | rfl | rfl | rfl | rfl | rfl | rfl <;> rfl
theorem zlc:(Tryz.prog.info? 240).map (·.size)=some 8:=by kernel_rfl
theorem zeh:(Tryz.prog.info? 240).map (fun i=>(i.zero,i.size,i.bytes))=some (some (.agg #[.int .i64 0,.int .u8 0,.string ⟨#[]⟩,.int .i64 0,.int .i64 0,.string ⟨#[]⟩,.int .i64 0,.int .i64 0]),8,80):=by kernel_rfl
theorem box8 {w:World}{b:Nat}{ty:TypeId}{e:Ex} (h:w.heap[b]?=some (.cells (zbb e).toArray ty (0,0))):w.cell? ⟨b,0,none⟩=some (.int .i64 e.kind)∧w.cell? ⟨b,1,none⟩=some (.int .u8 e.op)∧w.cell? ⟨b,2,none⟩=some (.string e.var)∧w.cell? ⟨b,3,none⟩=some (.int .i64 e.val.kind)∧w.cell? ⟨b,4,none⟩=some (.int .i64 e.val.num)∧w.cell? ⟨b,5,none⟩=some (.string e.val.sym)∧w.cell? ⟨b,6,none⟩=some (.int .i64 e.a)∧w.cell? ⟨b,7,none⟩=some (.int .i64 e.b):=by
 refine ⟨?_,?_,?_,?_,?_,?_,?_,?_⟩ <;> simp [World.cell?,h,zbb]
def QB (w:World) (b base:Nat) (x0 x1 x2 x4:Value) (a:Option Addr) (c:Nat) (xs:List Ex):Prop:=
 w.heap[b]?=some (.cells #[x0,x1,x2,.slice a xs.length c,x4] 35 (0,0))∧w.ownsRow base 240 8 (.slice a xs.length c) xs.length (xs.flatMap zbb)∧∀ x∈xs,ExSm x
structure Qs (g b:Nat) (o:Option Nat) (w w':World):Prop where
 rest:Below 0 w w'
 block:∀ k,k<w.heap.size→k≠g→k≠b→o≠some k→w'.heap[k]?=w.heap[k]?
 rdr:Rdr w' g
theorem Qs.of {g b:Nat}{o:Option Nat}{w w':World} (h:Rs g w w'):Qs g b o w w':=⟨h.1.rest,fun k hk hg _ _=>h.1.block k hk (fun e=>hg (by injection e with e;exact e.symm)),h.2⟩
def zcA (N:Nat) (o o':Option Nat):Prop:=o'=o∨∀ k,o'=some k→N≤k
theorem zcA.refl (N:Nat) (o:Option Nat):zcA N o o:=.inl rfl
theorem zcA.trans {N N':Nat}{o o' o'':Option Nat} (h:zcA N o o') (h':zcA N' o' o'') (hN:N≤N'):zcA N o o'':=by
 rcases h' with rfl | h'
 ·exact h
 ·exact .inr fun k hk=>Nat.le_trans hN (h' k hk)
theorem Qs.trans {g b:Nat}{o o':Option Nat}{u v w:World} (h:Qs g b o u v) (k:Qs g b o' v w) (hn:zcA u.heap.size o o'):Qs g b o u w:=by
 refine ⟨h.rest.trans k.rest,fun j hj hg hb ho=>?_,k.rdr⟩
 refine (k.block j (Nat.lt_of_lt_of_le hj h.rest.size) hg hb ?_).trans (h.block j hj hg hb ho)
 rcases hn with rfl | hn
 ·exact ho
 ·exact fun e=>absurd (hn j e) (by omega)
theorem QB.rs {w w':World}{g b base:Nat}{x0 x1 x2 x4:Value}{a:Option Addr}{c:Nat}{xs:List Ex} (h:QB w b base x0 x1 x2 x4 a c xs) (hr:Rs g w w') (hb:b≠g) (hg:g<base):QB w' b base x0 x1 x2 x4 a c xs:=
 ⟨zaC hr h.1 hb,zaf h.2.1 (fun k hk=>hr.1.block k (h.2.1.lt k hk).2 (fun e=>by injection e with e;have:=(h.2.1.lt k hk).1;omega)),h.2.2⟩
theorem QB.bel {w w':World}{b base:Nat}{x0 x1 x2 x4:Value}{a:Option Addr}{c:Nat}{xs:List Ex} (h:QB w b base x0 x1 x2 x4 a c xs) (hb:Below w.heap.size w w'):QB w' b base x0 x1 x2 x4 a c xs:=
 ⟨(hb.block b (zab h.1)).trans h.1,zaf h.2.1 (fun k hk=>hb.block k (h.2.1.lt k hk).2),h.2.2⟩
theorem QB.turned {w w':World}{b base d:Nat}{x0 x1 x2 x4:Value}{a:Option Addr}{c:Nat}{xs:List Ex} (h:QB w b base x0 x1 x2 x4 a c xs) (ht:Turned w w' d) (hd:d≠b) (ho:(Value.slice a xs.length c).ownBlock≠some d):QB w' b base x0 x1 x2 x4 a c xs:=
 ⟨(ht.block b (Ne.symm hd)).trans h.1,zaf h.2.1 (fun k hk=>ht.block k (fun e=>ho (by rw [hk,e]))),h.2.2⟩
def ze1 (K:List ByteArray) (w:World) (g b base:Nat) (a:Option Addr) (n:Nat):Prop:=n≤1048576∧∀ j,j<n→∃ (k o:Nat) (s:ByteArray),a=some ⟨k,o,none⟩∧g<k∧k≠b∧k<base∧GK K s∧w.cell? ⟨k,o+j,none⟩=some (.string s)
theorem ze1.keep {K:List ByteArray}{w w':World}{g b base:Nat}{a:Option Addr}{n:Nat} (h:ze1 K w g b base a n) (hk:∀ k,k<base→k<w.heap.size→g<k→k≠b→w'.heap[k]?=w.heap[k]?):ze1 K w' g b base a n:=by
 refine ⟨h.1,fun j hj=>?_⟩
 obtain ⟨k,o,s,h1,h2,h3,h4,h5,h6⟩:=h.2 j hj
 refine ⟨k,o,s,h1,h2,h3,h4,h5,?_⟩
 rw [← h6]
 exact World.cell?_of_block (w:=w) (hk k h4 (World.block_lt_of_cell? w ⟨k,_,none⟩ h6) h2 h3)
theorem ze1.qs {K:List ByteArray}{w w':World}{g b base:Nat}{o:Option Nat}{a:Option Addr}{n:Nat} (h:ze1 K w g b base a n) (hq:Qs g b o w w') (ho:∀ k,o=some k→base≤k):ze1 K w' g b base a n:=
 h.keep (fun k hk hl hg hb=>hq.block k hl (by omega) hb (fun e=>by have:=ho k e;omega))
def fD:Nat→Nat
 | 0=>1
 | d+1=>2 * fD d+1
def QPost (K:List ByteArray) (g b base:Nat) (x0 x1 x2 x4:Value) (a:Option Addr) (c:Nat) (xs:List Ex) (d:Nat) (w:World) (e:Ending) (w':World):Prop:=
 ∃ a' c' xs',QB w' b base x0 x1 x2 x4 a' c' xs'∧xs.length+1≤xs'.length∧xs'.length≤xs.length+fD d∧e=.returned (.int .i64 ((xs'.length:Int) - 1))∧Qs g b (Value.slice a xs.length c).ownBlock w w'∧zcA w.heap.size (Value.slice a xs.length c).ownBlock (Value.slice a' xs'.length c').ownBlock∧(∃ ys,xs'=xs ++ ys∧Tree K d xs.length ys)∧(52≤xs.length→xs'.length≤xs.length+1)
theorem zj5 {g b base:Nat}{x0 x1 x2 x4:Value}{a1:Option Addr}{c1:Nat}{xs1:List Ex}{u wt wa w3:World}{o:Option Nat}{E:Ex}{a3:Option Addr}{c3:Nat} (hq:QB wt b base x0 x1 x2 x4 a1 c1 xs1) (hE:ExSm E) (hQ:Qs g b o u wt) (hN:zcA u.heap.size o (Value.slice a1 xs1.length c1).ownBlock)
  (hwa:Below wt.heap.size wt wa) (ho:w3.ownsRow base 240 8 (.slice a3 (xs1.length+1) c3) (xs1.length+1) (xs1.flatMap zbb ++ zbb E)) (hg:wa.grownBy w3 (Value.slice a1 xs1.length c1).ownBlock)
  (hl:(Value.slice a3 (xs1.length+1) c3).ownBlock=(Value.slice a1 xs1.length c1).ownBlock∨(Value.slice a3 (xs1.length+1) c3).ownBlock=some wa.heap.size) (hgb:g<b) (hbb:b<base) (_hbase:base≤wt.heap.size) :
  QB (w3.setCell ⟨b,3,none⟩ (.slice a3 (xs1.length+1) c3)) b base x0 x1 x2 x4 a3 c3 (xs1 ++ [E])∧Qs g b o u (w3.setCell ⟨b,3,none⟩ (.slice a3 (xs1.length+1) c3))∧zcA u.heap.size o (Value.slice a3 (xs1.length+1) c3).ownBlock:=by
 have hob:∀ k,(Value.slice a1 xs1.length c1).ownBlock=some k→base≤k∧k<wt.heap.size:=fun k hk=>hq.2.1.lt k hk
 have hblt:b<wt.heap.size:=zab hq.1
 have e3:w3.heap[b]?=some (.cells #[x0,x1,x2,.slice a1 xs1.length c1,x4] 35 (0,0)):=by
  refine (hg.block b (Nat.lt_of_lt_of_le hblt hwa.size) (fun e=>?_)).trans ((hwa.block b hblt).trans hq.1)
  have:=(hob b e.symm).1
  omega
 have ho3:∀ k,(Value.slice a3 (xs1.length+1) c3).ownBlock=some k→base≤k:=fun k hk=>(ho.lt k hk).1
 refine ⟨⟨?_,?_,?_⟩,⟨?_,?_,?_⟩,?_⟩
 ·have:=zad (i:=3) e3 (.slice a3 (xs1.length+1) c3)
  simpa using this
 ·have:=zaf (w':=w3.setCell ⟨b,3,none⟩ (.slice a3 (xs1.length+1) c3)) ho (fun k hk=>Below.heap_setCell _ _ _ _ (by have:=ho3 k hk;simp;omega))
  simpa using this
 ·intro x hx
  rcases List.mem_append.1 hx with h | h
  ·exact hq.2.2 x h
  ·simp at h
   exact h ▸ hE
 ·refine Below.setCell ?_ (Nat.zero_le _) _
  exact (hQ.rest.trans (hwa.mono (Nat.zero_le _))).grown hg (Nat.zero_le _) (fun _ _=>Nat.zero_le _)
 ·intro k hk h1 h2 h3
  have hk2:k<wt.heap.size:=Nat.lt_of_lt_of_le hk hQ.rest.size
  refine (Below.heap_setCell _ _ _ _ (by simpa using h2)).trans ?_
  refine (hg.block k (Nat.lt_of_lt_of_le hk2 hwa.size) (fun e=>?_)).trans ((hwa.block k hk2).trans (hQ.block k hk h1 h2 h3))
  rcases hN with hN | hN
  ·exact h3 (by rw [← hN,e])
  ·have:=hN k e.symm
   omega
 ·refine Rdr.old hQ.rdr ?_
  refine Below.setCell ?_ (by simp;omega) _
  exact (hwa.mono (by omega)).grown hg (by have:=hwa.size;omega) (fun k hk=>by have:=(hob k hk).1;omega)
 ·rcases hl with h | h
  ·rw [h]
   exact hN
  ·refine .inr fun k hk=>?_
   rw [h] at hk
   injection hk with hk
   have:=hQ.rest.size
   have:=hwa.size
   omega
theorem absE {w:World}{b:Nat}{t:TypeId}{op p q:Int} (h:Hid (w.heap[b]?=some (.cells (zbb ⟨2,op,⟨#[]⟩,(0,0,⟨#[]⟩),p,q⟩).toArray t (0,0)))) (hE:isAr op=true) (h0:0≤op) (h1:op<256):∃ E,ExSm E∧(∃ op,isAr op=true∧E=opE op p q)∧Hid (w.heap[b]?=some (.cells (zbb E).toArray t (0,0))):=⟨opE op p q,⟨Nat.zero_le 20,zdP,h0,h1⟩,⟨op,hE,rfl⟩,h⟩
theorem zm3 {K:List ByteArray}{d:Nat}{xs xs2 xs4:List Ex}{E:Ex} (h2:∃ ys,xs2=xs ++ ys∧Tree K d xs.length ys) (h4:∃ ys,xs4=xs2 ++ ys∧Tree K d xs2.length ys) (hE:∃ op,isAr op=true∧E=opE op ((xs2.length:Int) - 1) ((xs4.length:Int) - 1)):∃ ys,xs4 ++ [E]=xs ++ ys∧Tree K (d+1) xs.length ys:=by
 obtain ⟨A,rfl,hA⟩:=h2
 obtain ⟨B,rfl,hB⟩:=h4
 obtain ⟨op,ho,rfl⟩:=hE
 refine ⟨A ++ (B ++ [opE op (((xs ++ A).length:Int) - 1) (((xs ++ A ++ B).length:Int) - 1)]),by simp,.inr ⟨A,B,op,ho,hA,by simpa using hB,?_⟩⟩
 simp [Nat.add_assoc]
theorem Qs.bel {g b:Nat}{o:Option Nat}{u v w:World} (h:Qs g b o u v) (hb:Below v.heap.size v w):Qs g b o u w:=
 ⟨h.rest.trans (hb.mono (Nat.zero_le _)),fun k hk h1 h2 h3=>(hb.block k (Nat.lt_of_lt_of_le hk h.rest.size)).trans (h.block k hk h1 h2 h3),h.rdr.bel hb⟩
theorem Qs.turned {g b d:Nat}{o:Option Nat}{u v w:World} (h:Qs g b o u v) (ht:Turned v w d) (hd:u.heap.size≤d) (hg:g<u.heap.size):Qs g b o u w:=
 ⟨h.rest.trans (ht.below (Nat.zero_le _)),fun k hk h1 h2 h3=>(ht.block k (by omega)).trans (h.block k hk h1 h2 h3),h.rdr.old (ht.below (by omega))⟩
theorem zcA.mono {N N':Nat}{o o':Option Nat} (h:zcA N' o o') (hN:N≤N'):zcA N o o':=by
 rcases h with h | h
 ·exact .inl h
 ·exact .inr fun k hk=>Nat.le_trans hN (h k hk)
theorem zea {b base:Nat}{x0 x1 x2 x4:Value}{a1:Option Addr}{c1:Nat}{xs1:List Ex}{wt wa w3:World} (hq:QB wt b base x0 x1 x2 x4 a1 c1 xs1) (hwa:Below wt.heap.size wt wa) (hg:wa.grownBy w3 (Value.slice a1 xs1.length c1).ownBlock) (hbb:b<base) :
  w3.cell? ⟨b,3,none⟩=some (.slice a1 xs1.length c1)∧w3.frozen? ⟨b,3,none⟩=false:=by
 have hblt:b<wt.heap.size:=zab hq.1
 have e3:w3.heap[b]?=some (.cells #[x0,x1,x2,.slice a1 xs1.length c1,x4] 35 (0,0)):=by
  refine (hg.block b (Nat.lt_of_lt_of_le hblt hwa.size) (fun e=>?_)).trans ((hwa.block b hblt).trans hq.1)
  have:=(hq.2.1.lt b e.symm).1
  omega
 exact ⟨by simp [World.cell?,e3],by simp [World.frozen?,e3]⟩
theorem QB.grown {w w':World}{b base:Nat}{x0 x1 x2 x4:Value}{a:Option Addr}{c:Nat}{xs:List Ex}{row:Option Nat}{t:TypeId} (h:QB w b base x0 x1 x2 x4 a c xs) (hg:w.grownBy w' row) (ht:∀ k,row=some k→∃ c,w.heap[k]?=some (.cells c t (0,0))) (h1:t≠35) (h2:t≠240):QB w' b base x0 x1 x2 x4 a c xs:=by
 refine ⟨(hg.block b (zab h.1) (fun e=>?_)).trans h.1,zaf h.2.1 (fun k hk=>hg.block k (h.2.1.lt k hk).2 (fun e=>?_)),h.2.2⟩
 ·obtain ⟨c',hc⟩:=ht b e.symm
  exact zaF hc h.1 h1
 ·obtain ⟨c',hc⟩:=ht k e.symm
  obtain ⟨c'',hc'⟩:=zah h.2.1 hk
  exact zaF hc hc' h2
theorem Qs.grown {g b:Nat}{o row:Option Nat}{u v w:World} (h:Qs g b o u v) (hg:v.grownBy w row) (hr:∀ k,row=some k→u.heap.size≤k) (hgu:g<u.heap.size):Qs g b o u w:=by
 refine ⟨h.rest.grown hg (Nat.zero_le _) (fun _ _=>Nat.zero_le _),fun k hk h1 h2 h3=>(hg.block k (Nat.lt_of_lt_of_le hk h.rest.size) (fun e=>?_)).trans (h.block k hk h1 h2 h3),h.rdr.old ((Below.refl _ _).grown hg (by have:=h.rest.size;omega) (fun k hk=>by have:=hr k hk;omega))⟩
 have:=hr k e.symm
 omega
theorem zkK {w w':World}{base g b:Nat}{o:Option Nat}{e t:TypeId}{m:Nat}{v:Value}{n:Nat}{xs:List Value} (h:w.ownsRow base e m v n xs) (hq:Qs g b o w w') (hg:g<base) (hb:b<base) (ht:∀ k,o=some k→∃ c,w.heap[k]?=some (.cells c t (0,0))) (hne:t≠e):w'.ownsRow base e m v n xs:=by
 refine zaf h fun k hk=>hq.block k (h.lt k hk).2 (by have:=(h.lt k hk).1;omega) (by have:=(h.lt k hk).1;omega) (fun e=>?_)
 obtain ⟨c,hc⟩:=ht k e
 obtain ⟨c',hc'⟩:=zah h hk
 exact zaF hc hc' hne
end Go.Proofs.YtmmdlgjmplddiaaGreat
