/-
  OUR OWN TEXT. Dw4h, Impl2, Mm2, Ic9, Bf4, one behind the other.
-/
import Derived.Test.YtmmdlgjmplddiaaGreatKas
import Derived.Test.YtmmdlgjmplddiaaGreatDw3m
import Derived.Test.YtmmdlgjmplddiaaGreatKaj
import Derived.Deep.RegionLaw
import Derived.Test.YtmmdlgjmplddiaaGreatKbh
import Derived.Test.YtmmdlgjmplddiaaGreatKaz
import Derived.Test.YtmmdlgjmplddiaaGreatKaw
import Derived.Deep.RegionHeld3
import Derived.Deep.QuietTactic
import Derived.BigQuiet
import Derived.Deep.DrawnRows
import Derived.Test.YtmmdlgjmplddiaaGreatMm1m
import Derived.Shelf.SlMaps.Clone
import Derived.Test.YtmmdlgjmplddiaaGreatBf3m
namespace Go.Proofs.YtmmdlgjmplddiaaGreat
open Go.RowKit
attribute [local go_sem ↓] Go.wp_at_zero Go.wp_at_succ
theorem zbG {P:Program}{ops:Array Oper}{rest:List Oper}{op:Oper}{a:Act}{w:World}{Q:Exit→Act→World→Prop} (hgd:op.guard=none) (ty:TypeId) (x y:Operand) (ho:op.op=.store ty x y)
  (b o:Nat) (L:List Value) (hx:a.eval x=.pointer (some ⟨b,o,none⟩)) (hy:a.eval y=.agg L.toArray) (c:Array Value) (t:TypeId) (hb:w.heap[b]?=some (.cells c t (0,0)))
  (hs:o+L.length≤c.size) (hi:(P.info? ty).map (·.size)=some L.length) (h1:∀ v∈L,v.oneCell'=true) (N:Array Value) (hN:(c.toList.take o ++ (L ++ c.toList.drop (o+L.length))).toArray=N)
  (h:∀ w',Hid (w'.heap[b]?=some (.cells N t (0,0)))→Hid (Turned w w' b)→wpList P ops Q rest (a.put op.dst undef) w'):wpList P ops Q (op :: rest) a w:=by
 refine wpList_store_mid hgd ty x y ho b o L.toArray hx hy (zfT hb (by simpa using hs)) (by simpa using hi) (all_oneCell_toArray h1) (h _ ?_ (Turned.setCells _ _ _ _))
 show _=_
 rw [← hN]
 exact zbH hb (o:=o) L hs
set_option maxHeartbeats 400000 in
theorem zkd (w:World):Calls Tryz.prog 166 #[] w fun e w'=>e=.returned (.slice (some ⟨w.heap.size,0,none⟩) 5 5)∧w'=w.alloc (.cells #[.string ⟨#[43]⟩,.string ⟨#[45]⟩,.string ⟨#[42]⟩,.string ⟨#[47]⟩,.string ⟨#[37]⟩] 9):=by
 go_enter Tryz.func166,Tryz.ntmps166
 go_wp2
 go_ret
 exact ⟨rfl,rfl⟩
def zba (e:Ex):List Value:=[.int .i64 e.kind,.int .u8 e.op,.string e.var,.int .i64 e.val.kind,.int .i64 e.val.num,.string e.val.sym,.int .i64 e.a,.int .i64 e.b]
def ExSm (e:Ex):Prop:=e.var.size≤20∧VSm e.val∧0≤e.op∧e.op<256
theorem zbC (e:Ex):∀ u∈zba e,u.oneCell'=true:=by
 intro u hu
 simp [zba] at hu
 rcases hu with rfl | rfl | rfl | rfl | rfl | rfl | rfl | rfl <;> rfl
theorem zl8:(Tryz.prog.info? 240).map (·.size)=some 8:=by kernel_rfl
theorem zek:(Tryz.prog.info? 240).map (fun i=>(i.zero,i.size,i.bytes))=some (some (.agg #[.int .i64 0,.int .u8 0,.string ⟨#[]⟩,.int .i64 0,.int .i64 0,.string ⟨#[]⟩,.int .i64 0,.int .i64 0]),8,80):=by kernel_rfl
theorem box8 {w:World}{b:Nat}{ty:TypeId}{e:Ex} (h:w.heap[b]?=some (.cells (zba e).toArray ty (0,0))):w.cell? ⟨b,0,none⟩=some (.int .i64 e.kind)∧w.cell? ⟨b,1,none⟩=some (.int .u8 e.op)∧w.cell? ⟨b,2,none⟩=some (.string e.var)∧w.cell? ⟨b,3,none⟩=some (.int .i64 e.val.kind)∧w.cell? ⟨b,4,none⟩=some (.int .i64 e.val.num)∧w.cell? ⟨b,5,none⟩=some (.string e.val.sym)∧w.cell? ⟨b,6,none⟩=some (.int .i64 e.a)∧w.cell? ⟨b,7,none⟩=some (.int .i64 e.b):=by
 refine ⟨?_,?_,?_,?_,?_,?_,?_,?_⟩ <;> simp [World.cell?,h,zba]
def QB (w:World) (b base:Nat) (x0 x1 x2 x4:Value) (a:Option Addr) (c:Nat) (xs:List Ex):Prop:=
 w.heap[b]?=some (.cells #[x0,x1,x2,.slice a xs.length c,x4] 35 (0,0))∧w.ownsRow base 240 8 (.slice a xs.length c) xs.length (xs.flatMap zba)∧∀ x∈xs,ExSm x
structure Qs (g b:Nat) (o:Option Nat) (w w':World):Prop where
 rest:Below 0 w w'
 block:∀ k,k<w.heap.size→k≠g→k≠b→o≠some k→w'.heap[k]?=w.heap[k]?
 rdr:Rdr w' g
theorem Qs.of {g b:Nat}{o:Option Nat}{w w':World} (h:Rs g w w'):Qs g b o w w':=⟨h.1.rest,fun k hk hg _ _=>h.1.block k hk (fun e=>hg (by injection e with e;exact e.symm)),h.2⟩
def zcD (N:Nat) (o o':Option Nat):Prop:=o'=o∨∀ k,o'=some k→N≤k
theorem zcD.refl (N:Nat) (o:Option Nat):zcD N o o:=.inl rfl
theorem zcD.trans {N N':Nat}{o o' o'':Option Nat} (h:zcD N o o') (h':zcD N' o' o'') (hN:N≤N'):zcD N o o'':=by
 rcases h' with rfl | h'
 ·exact h
 ·exact .inr fun k hk=>Nat.le_trans hN (h' k hk)
theorem Qs.trans {g b:Nat}{o o':Option Nat}{u v w:World} (h:Qs g b o u v) (k:Qs g b o' v w) (hn:zcD u.heap.size o o'):Qs g b o u w:=by
 refine ⟨h.rest.trans k.rest,fun j hj hg hb ho=>?_,k.rdr⟩
 refine (k.block j (Nat.lt_of_lt_of_le hj h.rest.size) hg hb ?_).trans (h.block j hj hg hb ho)
 rcases hn with rfl | hn
 ·exact ho
 ·exact fun e=>absurd (hn j e) (by omega)
theorem QB.rs {w w':World}{g b base:Nat}{x0 x1 x2 x4:Value}{a:Option Addr}{c:Nat}{xs:List Ex} (h:QB w b base x0 x1 x2 x4 a c xs) (hr:Rs g w w') (hb:b≠g) (hg:g<base):QB w' b base x0 x1 x2 x4 a c xs:=
 ⟨zaC hr h.1 hb,zae h.2.1 (fun k hk=>hr.1.block k (h.2.1.lt k hk).2 (fun e=>by injection e with e;have:=(h.2.1.lt k hk).1;omega)),h.2.2⟩
theorem QB.bel {w w':World}{b base:Nat}{x0 x1 x2 x4:Value}{a:Option Addr}{c:Nat}{xs:List Ex} (h:QB w b base x0 x1 x2 x4 a c xs) (hb:Below w.heap.size w w'):QB w' b base x0 x1 x2 x4 a c xs:=
 ⟨(hb.block b (zab h.1)).trans h.1,zae h.2.1 (fun k hk=>hb.block k (h.2.1.lt k hk).2),h.2.2⟩
theorem QB.turned {w w':World}{b base d:Nat}{x0 x1 x2 x4:Value}{a:Option Addr}{c:Nat}{xs:List Ex} (h:QB w b base x0 x1 x2 x4 a c xs) (ht:Turned w w' d) (hd:d≠b) (ho:(Value.slice a xs.length c).ownBlock≠some d):QB w' b base x0 x1 x2 x4 a c xs:=
 ⟨(ht.block b (Ne.symm hd)).trans h.1,zae h.2.1 (fun k hk=>ht.block k (fun e=>ho (by rw [hk,e]))),h.2.2⟩
def zfE (K:List ByteArray) (w:World) (g b base:Nat) (a:Option Addr) (n:Nat):Prop:=n≤1048576∧∀ j,j<n→∃ (k o:Nat) (s:ByteArray),a=some ⟨k,o,none⟩∧g<k∧k≠b∧k<base∧GK K s∧w.cell? ⟨k,o+j,none⟩=some (.string s)
theorem zfE.keep {K:List ByteArray}{w w':World}{g b base:Nat}{a:Option Addr}{n:Nat} (h:zfE K w g b base a n) (hk:∀ k,k<base→k<w.heap.size→g<k→k≠b→w'.heap[k]?=w.heap[k]?):zfE K w' g b base a n:=by
 refine ⟨h.1,fun j hj=>?_⟩
 obtain ⟨k,o,s,h1,h2,h3,h4,h5,h6⟩:=h.2 j hj
 refine ⟨k,o,s,h1,h2,h3,h4,h5,?_⟩
 rw [← h6]
 exact World.cell?_of_block (w:=w) (hk k h4 (World.block_lt_of_cell? w ⟨k,_,none⟩ h6) h2 h3)
theorem zfE.qs {K:List ByteArray}{w w':World}{g b base:Nat}{o:Option Nat}{a:Option Addr}{n:Nat} (h:zfE K w g b base a n) (hq:Qs g b o w w') (ho:∀ k,o=some k→base≤k):zfE K w' g b base a n:=
 h.keep (fun k hk hl hg hb=>hq.block k hl (by omega) hb (fun e=>by have:=ho k e;omega))
def fD:Nat→Nat
 | 0=>1
 | d+1=>2 * fD d+1
def QPost (K:List ByteArray) (g b base:Nat) (x0 x1 x2 x4:Value) (a:Option Addr) (c:Nat) (xs:List Ex) (d:Nat) (w:World) (e:Ending) (w':World):Prop:=
 ∃ a' c' xs',QB w' b base x0 x1 x2 x4 a' c' xs'∧xs.length+1≤xs'.length∧xs'.length≤xs.length+fD d∧e=.returned (.int .i64 ((xs'.length:Int) - 1))∧Qs g b (Value.slice a xs.length c).ownBlock w w'∧zcD w.heap.size (Value.slice a xs.length c).ownBlock (Value.slice a' xs'.length c').ownBlock∧(∃ ys,xs'=xs ++ ys∧Tree K d xs.length ys)∧(52≤xs.length→xs'.length≤xs.length+1)
theorem zkk {g b base:Nat}{x0 x1 x2 x4:Value}{a1:Option Addr}{c1:Nat}{xs1:List Ex}{u wt wa w3:World}{o:Option Nat}{E:Ex}{a3:Option Addr}{c3:Nat} (hq:QB wt b base x0 x1 x2 x4 a1 c1 xs1) (hE:ExSm E) (hQ:Qs g b o u wt) (hN:zcD u.heap.size o (Value.slice a1 xs1.length c1).ownBlock)
  (hwa:Below wt.heap.size wt wa) (ho:w3.ownsRow base 240 8 (.slice a3 (xs1.length+1) c3) (xs1.length+1) (xs1.flatMap zba ++ zba E)) (hg:wa.grownBy w3 (Value.slice a1 xs1.length c1).ownBlock)
  (hl:(Value.slice a3 (xs1.length+1) c3).ownBlock=(Value.slice a1 xs1.length c1).ownBlock∨(Value.slice a3 (xs1.length+1) c3).ownBlock=some wa.heap.size) (hgb:g<b) (hbb:b<base) (_hbase:base≤wt.heap.size) :
  QB (w3.setCell ⟨b,3,none⟩ (.slice a3 (xs1.length+1) c3)) b base x0 x1 x2 x4 a3 c3 (xs1 ++ [E])∧Qs g b o u (w3.setCell ⟨b,3,none⟩ (.slice a3 (xs1.length+1) c3))∧zcD u.heap.size o (Value.slice a3 (xs1.length+1) c3).ownBlock:=by
 have hob:∀ k,(Value.slice a1 xs1.length c1).ownBlock=some k→base≤k∧k<wt.heap.size:=fun k hk=>hq.2.1.lt k hk
 have hblt:b<wt.heap.size:=zab hq.1
 have e3:w3.heap[b]?=some (.cells #[x0,x1,x2,.slice a1 xs1.length c1,x4] 35 (0,0)):=by
  refine (hg.block b (Nat.lt_of_lt_of_le hblt hwa.size) (fun e=>?_)).trans ((hwa.block b hblt).trans hq.1)
  have:=(hob b e.symm).1
  omega
 have ho3:∀ k,(Value.slice a3 (xs1.length+1) c3).ownBlock=some k→base≤k:=fun k hk=>(ho.lt k hk).1
 refine ⟨⟨?_,?_,?_⟩,⟨?_,?_,?_⟩,?_⟩
 ·have:=zaf (i:=3) e3 (.slice a3 (xs1.length+1) c3)
  simpa using this
 ·have:=zae (w':=w3.setCell ⟨b,3,none⟩ (.slice a3 (xs1.length+1) c3)) ho (fun k hk=>Below.heap_setCell _ _ _ _ (by have:=ho3 k hk;simp;omega))
  simpa using this
 ·intro x hx
  rcases List.mem_append.1 hx with h | h
  ·exact hq.2.2 x h
  ·simp at h
   exact h ▸ hE
 ·refine Below.setCell ?_ (Nat.zero_le _) _
  exact (hQ.rest.trans (hwa.mono (Nat.zero_le _))).grown hg (Nat.zero_le _) (fun _ _=>Nat.zero_le _)
 ·intro k hk h1 h2 h3
  have hk2:k<wt.heap.size:=Nat.lt_of_lt_of_le hk hQ.rest.size
  refine (Below.heap_setCell _ _ _ _ (by simpa using h2)).trans ?_
  refine (hg.block k (Nat.lt_of_lt_of_le hk2 hwa.size) (fun e=>?_)).trans ((hwa.block k hk2).trans (hQ.block k hk h1 h2 h3))
  rcases hN with hN | hN
  ·exact h3 (by rw [← hN,e])
  ·have:=hN k e.symm
   omega
 ·refine Rdr.old hQ.rdr ?_
  refine Below.setCell ?_ (by simp;omega) _
  exact (hwa.mono (by omega)).grown hg (by have:=hwa.size;omega) (fun k hk=>by have:=(hob k hk).1;omega)
 ·rcases hl with h | h
  ·rw [h]
   exact hN
  ·refine .inr fun k hk=>?_
   rw [h] at hk
   injection hk with hk
   have:=hQ.rest.size
   have:=hwa.size
   omega
theorem absE {w:World}{b:Nat}{t:TypeId}{op p q:Int} (h:Hid (w.heap[b]?=some (.cells (zba ⟨2,op,⟨#[]⟩,(0,0,⟨#[]⟩),p,q⟩).toArray t (0,0)))) (hE:isAr op=true) (h0:0≤op) (h1:op<256):∃ E,ExSm E∧(∃ op,isAr op=true∧E=opE op p q)∧Hid (w.heap[b]?=some (.cells (zba E).toArray t (0,0))):=⟨opE op p q,⟨Nat.zero_le 20,zdY,h0,h1⟩,⟨op,hE,rfl⟩,h⟩
theorem zom {K:List ByteArray}{d:Nat}{xs xs2 xs4:List Ex}{E:Ex} (h2:∃ ys,xs2=xs ++ ys∧Tree K d xs.length ys) (h4:∃ ys,xs4=xs2 ++ ys∧Tree K d xs2.length ys) (hE:∃ op,isAr op=true∧E=opE op ((xs2.length:Int) - 1) ((xs4.length:Int) - 1)):∃ ys,xs4 ++ [E]=xs ++ ys∧Tree K (d+1) xs.length ys:=by
 obtain ⟨A,rfl,hA⟩:=h2
 obtain ⟨B,rfl,hB⟩:=h4
 obtain ⟨op,ho,rfl⟩:=hE
 refine ⟨A ++ (B ++ [opE op (((xs ++ A).length:Int) - 1) (((xs ++ A ++ B).length:Int) - 1)]),by simp,.inr ⟨A,B,op,ho,hA,by simpa using hB,?_⟩⟩
 simp [Nat.add_assoc]
theorem Qs.bel {g b:Nat}{o:Option Nat}{u v w:World} (h:Qs g b o u v) (hb:Below v.heap.size v w):Qs g b o u w:=
 ⟨h.rest.trans (hb.mono (Nat.zero_le _)),fun k hk h1 h2 h3=>(hb.block k (Nat.lt_of_lt_of_le hk h.rest.size)).trans (h.block k hk h1 h2 h3),h.rdr.bel hb⟩
theorem Qs.turned {g b d:Nat}{o:Option Nat}{u v w:World} (h:Qs g b o u v) (ht:Turned v w d) (hd:u.heap.size≤d) (hg:g<u.heap.size):Qs g b o u w:=
 ⟨h.rest.trans (ht.below (Nat.zero_le _)),fun k hk h1 h2 h3=>(ht.block k (by omega)).trans (h.block k hk h1 h2 h3),h.rdr.old (ht.below (by omega))⟩
theorem zcD.mono {N N':Nat}{o o':Option Nat} (h:zcD N' o o') (hN:N≤N'):zcD N o o':=by
 rcases h with h | h
 ·exact .inl h
 ·exact .inr fun k hk=>Nat.le_trans hN (h k hk)
theorem zeq {b base:Nat}{x0 x1 x2 x4:Value}{a1:Option Addr}{c1:Nat}{xs1:List Ex}{wt wa w3:World} (hq:QB wt b base x0 x1 x2 x4 a1 c1 xs1) (hwa:Below wt.heap.size wt wa) (hg:wa.grownBy w3 (Value.slice a1 xs1.length c1).ownBlock) (hbb:b<base) :
  w3.cell? ⟨b,3,none⟩=some (.slice a1 xs1.length c1)∧w3.frozen? ⟨b,3,none⟩=false:=by
 have hblt:b<wt.heap.size:=zab hq.1
 have e3:w3.heap[b]?=some (.cells #[x0,x1,x2,.slice a1 xs1.length c1,x4] 35 (0,0)):=by
  refine (hg.block b (Nat.lt_of_lt_of_le hblt hwa.size) (fun e=>?_)).trans ((hwa.block b hblt).trans hq.1)
  have:=(hq.2.1.lt b e.symm).1
  omega
 exact ⟨by simp [World.cell?,e3],by simp [World.frozen?,e3]⟩
theorem QB.grown {w w':World}{b base:Nat}{x0 x1 x2 x4:Value}{a:Option Addr}{c:Nat}{xs:List Ex}{row:Option Nat}{t:TypeId} (h:QB w b base x0 x1 x2 x4 a c xs) (hg:w.grownBy w' row) (ht:∀ k,row=some k→∃ c,w.heap[k]?=some (.cells c t (0,0))) (h1:t≠35) (h2:t≠240):QB w' b base x0 x1 x2 x4 a c xs:=by
 refine ⟨(hg.block b (zab h.1) (fun e=>?_)).trans h.1,zae h.2.1 (fun k hk=>hg.block k (h.2.1.lt k hk).2 (fun e=>?_)),h.2.2⟩
 ·obtain ⟨c',hc⟩:=ht b e.symm
  exact zaA hc h.1 h1
 ·obtain ⟨c',hc⟩:=ht k e.symm
  obtain ⟨c'',hc'⟩:=zai h.2.1 hk
  exact zaA hc hc' h2
theorem Qs.grown {g b:Nat}{o row:Option Nat}{u v w:World} (h:Qs g b o u v) (hg:v.grownBy w row) (hr:∀ k,row=some k→u.heap.size≤k) (hgu:g<u.heap.size):Qs g b o u w:=by
 refine ⟨h.rest.grown hg (Nat.zero_le _) (fun _ _=>Nat.zero_le _),fun k hk h1 h2 h3=>(hg.block k (Nat.lt_of_lt_of_le hk h.rest.size) (fun e=>?_)).trans (h.block k hk h1 h2 h3),h.rdr.old ((Below.refl _ _).grown hg (by have:=h.rest.size;omega) (fun k hk=>by have:=hr k hk;omega))⟩
 have:=hr k e.symm
 omega
theorem zmh {w w':World}{base g b:Nat}{o:Option Nat}{e t:TypeId}{m:Nat}{v:Value}{n:Nat}{xs:List Value} (h:w.ownsRow base e m v n xs) (hq:Qs g b o w w') (hg:g<base) (hb:b<base) (ht:∀ k,o=some k→∃ c,w.heap[k]?=some (.cells c t (0,0))) (hne:t≠e):w'.ownsRow base e m v n xs:=by
 refine zae h fun k hk=>hq.block k (h.lt k hk).2 (by have:=(h.lt k hk).1;omega) (by have:=(h.lt k hk).1;omega) (fun e=>?_)
 obtain ⟨c,hc⟩:=ht k e
 obtain ⟨c',hc'⟩:=zai h hk
 exact zaA hc hc' hne
end Go.Proofs.YtmmdlgjmplddiaaGreat
namespace Go.Proofs.YtmmdlgjmplddiaaGreat
open Go.RowKit
attribute [local go_sem ↓] Go.wp_at_zero Go.wp_at_succ
end Go.Proofs.YtmmdlgjmplddiaaGreat
namespace Go.Proofs.YtmmdlgjmplddiaaGreat
open Go.RowKit
theorem zbA.elimNo {p:Pt}{f:F}{bs:List Bd}{w w':World}{e:Ending} (h:zbA p f bs w e w') (hn:agree p f bs=none):e=.returned (.tuple #[.slice none 0 0,.bool false])∧Below w.heap.size w w':=by
 unfold zbA at h
 rw [hn] at h
 exact h
theorem zbA.elimYes {p:Pt}{f:F}{bs o:List Bd}{w w':World}{e:Ending} (h:zbA p f bs w e w') (hn:agree p f bs=some o):∃ a c,e=.returned (.tuple #[.slice a o.length c,.bool true])∧w'.ownsRow w.heap.size 220 4 (.slice a o.length c) o.length (o.flatMap za7)∧Below w.heap.size w w':=by
 unfold zbA at h
 rw [hn] at h
 obtain ⟨⟨a,c,he,ho⟩,hb⟩:=h
 exact ⟨a,c,he,ho,hb⟩
abbrev PmX:=Pm × Value × Value
def zcN (x:PmX):List Value:=[x.2.1,x.2.2]
structure PmP (w:World) (base:Nat) (x:PmX):Prop where
 ts:∃ a c,x.2.1=.slice a x.1.tags.length c
 bs:∃ a c,x.2.2=.slice a x.1.binds.length c
 ot:w.ownsRow base 3 1 x.2.1 x.1.tags.length (icells x.1.tags)
 ob:w.ownsRow base 220 4 x.2.2 x.1.binds.length (x.1.binds.flatMap za7)
structure MO (w:World) (b1 base:Nat) (a:Option Addr) (c:Nat) (L:List PmX):Prop where
 row:w.ownsRow b1 91 2 (.slice a L.length c) L.length (L.flatMap zcN)
 all:∀ x∈L,PmP w base x
theorem MO.nil (w:World) (b1 base:Nat):MO w b1 base none 0 []:=⟨World.ownsRow_nil _ _ _ _,fun x hx=>by simp at hx⟩
theorem PmP.bel {w w':World}{base:Nat}{x:PmX} (h:PmP w base x) (hb:Below w.heap.size w w'):PmP w' base x:=⟨h.ts,h.bs,zag h.ot hb,zag h.ob hb⟩
theorem MO.bel {w w':World}{b1 base:Nat}{a:Option Addr}{c:Nat}{L:List PmX} (h:MO w b1 base a c L) (hb:Below w.heap.size w w'):MO w' b1 base a c L:=⟨zag h.row hb,fun x hx=>(h.all x hx).bel hb⟩
theorem PmP.lower {w:World}{base base':Nat}{x:PmX} (h:PmP w base x) (hb:base'≤base):PmP w base' x:=⟨h.ts,h.bs,zan h.ot hb,zan h.ob hb⟩
theorem PmP.grown {w w':World}{base:Nat}{t:TypeId}{x:PmX}{row:Option Nat} (h:PmP w base x) (hg:w.grownBy w' row) (ht:∀ k,row=some k→∃ c,w.heap[k]?=some (.cells c t (0,0))) (h1:t≠3) (h2:t≠220):PmP w' base x:=⟨h.ts,h.bs,zbh h.ot hg ht h1,zbh h.ob hg ht h2⟩
theorem MO.snoc {w w':World}{b1 base:Nat}{a a':Option Addr}{c c':Nat}{L:List PmX}{x:PmX} (h:MO w b1 base a c L) (hx:PmP w base x) (ho:w'.ownsRow b1 91 2 (.slice a' (L.length+1) c') (L.length+1) (L.flatMap zcN ++ zcN x)) (hg:w.grownBy w' (Value.slice a L.length c).ownBlock):MO w' b1 base a' c' (L ++ [x]):=by
 refine ⟨by simpa using ho,fun y hy=>?_⟩
 have hy':PmP w base y:=by
  rcases List.mem_append.1 hy with hy | hy
  ·exact h.all y hy
  ·simp at hy
   subst hy
   exact hx
 exact hy'.grown hg (fun k hk=>zai h.row hk) (by decide) (by decide)
theorem MO.get {w:World}{b1 base:Nat}{a:Option Addr}{c:Nat}{L:List PmX} (h:MO w b1 base a c L) {i:Nat}{x:PmX} (hi:L[i]?=some x) :
  ∃ k,a=some ⟨k,0,none⟩∧k<w.heap.size∧w.cell? ⟨k,i * 2,none⟩=some x.2.1∧w.cell? ⟨k,i * 2+1,none⟩=some x.2.2:=by
 have key:=fun j u (hj:(zcN x)[j]?=some u)=>zam h.row (za5 (cells:=zcN) (m:=2) (fun _=>rfl) L i x j u hi hj)
 obtain ⟨k,rfl,_,h0,_⟩:=key 0 _ rfl
 obtain ⟨k1,e1,_,h1,_⟩:=key 1 _ rfl
 cases e1
 exact ⟨k,rfl,World.block_lt_of_cell? w ⟨k,_,none⟩ h0,h0,h1⟩
theorem zdH {w:World}{base:Nat}{x:PmX} (h:PmP w base x):∀ u∈zcN x,u.oneCell'=true:=by
 obtain ⟨⟨a,c,h1⟩,⟨a',c',h2⟩,_,_⟩:=h
 intro u hu
 simp [zcN] at hu
 rcases hu with rfl | rfl
 ·rw [h1];rfl
 ·rw [h2];rfl
theorem zi1:(Tryz.prog.info? 91).map (fun i=>(i.zero,i.size,i.bytes))=some (some (.agg #[.slice none 0 0,.slice none 0 0]),2,48):=by kernel_rfl
theorem zev:(Tryz.prog.info? 3).map (fun i=>(i.zero,i.size,i.bytes))=some (some (.int .i64 0),1,8):=by kernel_rfl
theorem znM {w:World}{base:Nat}{xs:List Int}{a:Option Addr}{c:Nat} (h:w.ownsRow base 3 1 (.slice a xs.length c) xs.length (icells xs)) (e:a=none):xs.length=0:=by
 subst e
 rcases h.2 with ⟨_,h0⟩ | ⟨g,cap,cur,hv,_⟩
 ·exact h0
 ·cases hv
theorem zpk {w:World}{base:Nat}{xs:List Int}{a:Option Addr}{c:Nat} (h:w.ownsRow base 3 1 (.slice a xs.length c) xs.length (icells xs)) (ad:Addr) (e:a=some ad) (j:Nat) (u:Value) (hu:(icells xs)[j]?=some u):w.cell? (ad.add j)=some u:=by
 obtain ⟨g,he,_,hc,_⟩:=zam h hu
 rw [e] at he
 cases he
 rw [Addr.add_mid,Nat.zero_add]
 exact hc
theorem znT (xs:List Int):∀ u∈icells xs,u.oneCell'=true:=by
 intro u hu
 simp [icells] at hu
 obtain ⟨x,_,rfl⟩:=hu
 rfl
theorem znR (xs:List Int):(icells xs).length=xs.length * 1:=by simp [icells]
theorem zfm (xs:List Int) (x:Int):icells (xs ++ [x])=icells xs ++ [.int .i64 x]:=by simp [icells]
theorem cells2M {w:World}{b:Nat}{ty:TypeId}{x0 x1:Value} (h:w.heap[b]?=some (.cells #[x0,x1] ty (0,0))):w.cell? ⟨b,0,none⟩=some x0∧w.cell? ⟨b,1,none⟩=some x1:=by
 refine ⟨?_,?_⟩ <;> simp [World.cell?,h]
theorem zaH.getM {w:World}{a:Option Addr}{fs:List F} (h:zaH w a fs) {i:Nat}{f:F} (hi:fs[i]?=some f):∃ b o,a=some ⟨b,o,none⟩∧b<w.heap.size∧w.cell? ⟨b,o+i * 3,none⟩=some (.int .i64 f.tag)∧w.cell? ⟨b,o+i * 3+1,none⟩=some (.string f.cls)∧∃ a' c,w.cell? ⟨b,o+i * 3+2,none⟩=some (.slice a' f.slots.length c)∧zaV w a' f.slots:=by
 obtain ⟨b,o,e,h1,h2,a',c,h3,h4⟩:=h i f hi
 exact ⟨b,o,e,zjF h1,h1,h2,a',c,h3,h4⟩
def anyH (p:Pt) (x:Pm) (l:List F):Bool:=decide (0<(hits p x l).length)
def zcT (p:Pt) (x:Pm) (l:List F):List Pm:=if p.neg=true then [] else hits p x l
theorem zoL {p:Pt}{x:Pm}{l:List F}{f:F} (h:agree p f x.binds=none):anyH p x (l ++ [f])=anyH p x l:=by unfold anyH;rw [zdl,h];simp
theorem zmW {p:Pt}{x:Pm}{l:List F}{f:F}{o:List Bd} (h:agree p f x.binds=some o):anyH p x (l ++ [f])=true:=by unfold anyH;rw [zdl,h];simp
theorem zmZ {p:Pt}{x:Pm}{l:List F}{f:F} (h:agree p f x.binds=none):zcT p x (l ++ [f])=zcT p x l:=by unfold zcT;rw [zdl,h];simp
theorem zd8 {p:Pt}{x:Pm}{l:List F} (h:p.neg=true):zcT p x l=[]:=if_pos h
theorem zkY {p:Pt}{x:Pm}{l:List F}{f:F}{o:List Bd} (hn:p.neg=false) (h:agree p f x.binds=some o):zcT p x (l ++ [f])=zcT p x l ++ [⟨x.tags ++ [f.tag],o⟩]:=by
 unfold zcT
 rw [if_neg (by rw [hn];simp),if_neg (by rw [hn];simp),zdl,h]
theorem zlF (p:Pt) (x:Pm) (l:List F):(zcT p x l).length≤l.length:=by
 unfold zcT
 split
 ·simp
 ·exact zeX p x l
theorem zkz {p:Pt}{fs:List F}{x:Pm} (h:p.neg=false):zcn p fs x=zcT p x fs:=by
 unfold zcn zcT
 rw [if_neg (by rw [h];simp),if_neg (by rw [h];simp)]
theorem zgB {p:Pt}{fs:List F}{x:Pm} (h:p.neg=true) (b:Bool) (hb:b=anyH p x fs):zcn p fs x=if b=true then [] else [x]:=by
 unfold zcn
 rw [if_pos h]
 unfold anyH at hb
 by_cases h0:(hits p x fs).length=0
 ·rw [if_pos h0,hb,if_neg (by simp;exact List.eq_nil_of_length_eq_zero h0)]
 ·rw [if_neg h0,hb,if_pos (decide_eq_true (by omega))]
theorem zj9 (p:Pt) (fs:List F) (X:List Pm) (k:Nat) (x:Pm) (h:X[k]?=some x):zbc p fs (X.take (k+1))=zbc p fs (X.take k) ++ zcn p fs x:=by
 unfold zbc
 rw [List.take_add_one,h,List.flatMap_append]
 simp
theorem zdt (p:Pt) (fs:List F):∀ X:List Pm,(zbc p fs X).length≤X.length * (fs.length+1)
 | []=>by simp [zbc]
 | x :: r=>by
  have h1:=zdt p fs r
  have h2:=zkt p fs x
  have h3:zbc p fs (x :: r)=zcn p fs x ++ zbc p fs r:=by unfold zbc;rw [List.flatMap_cons]
  rw [h3,List.length_append,List.length_cons,Nat.add_mul]
  omega
end Go.Proofs.YtmmdlgjmplddiaaGreat
namespace Go.Proofs.YtmmdlgjmplddiaaGreat
open Go.RowKit Go.Maps
attribute [local go_sem ↓] Go.wp_at_zero Go.wp_at_succ
set_option maxHeartbeats 800000 in
set_option maxRecDepth 100000 in
theorem zlX (b n:Nat) (D:DataW Unit) (w:World) (h:NMap w b n D) :
  Calls Tryz.prog 153 #[.map (some b)] w fun e w'=>e=.returned (.map (some w.heap.size))∧NMap w' w.heap.size n D∧Below w.heap.size w w':=by
 obtain ⟨es,clock,hb,F,hs,hD⟩:=h
 have hq:=fun w=>run_eql_map_nil_sl (P:=Tryz.prog) w 226 _ _ (some b) Tryz.underlying226
 go_enter Tryz.func153,Tryz.ntmps153
 go_wp2
 rw [run_callFunc_extern Tryz.func169 (by kernel_rfl) (by kernel_rfl) (by kernel_rfl) (e:=Extern.MapsClone.clone) (by kernel_rfl),run_maps_clone_sl w 226 hb]
 simp only [Result.andThen]
 rw [Oper.upon_value]
 go_wp2
 rw [run_typeAssert_map_sl _ 226 _ _ _ _ Tryz.underlying226]
 simp only [Result.andThen]
 rw [Oper.upon_value]
 go_wp2
 go_ret
 exact ⟨rfl,⟨es,clock,(MapKept.heap_alloc w _).1,F,hs,hD⟩,(Below.refl _ w).alloc (Nat.le_refl _) _⟩
theorem zaX (t:Tm) (r:List Tm) (here:List ByteArray):zap (t :: r) here=if asks t && !memB t.var here then none else zap r (if t.kind==2 then here ++ [t.var] else here):=rfl
theorem zaU {p:Prop} (h:p):Hid p:=h
theorem zm9 {w w':World}{b n:Nat}{D:DataW Unit} (h:NMap w b n D) (hb:Below w.heap.size w w'):NMap w' b n D:=by
 have hl:=h.lt
 obtain ⟨es,clock,h1,h2⟩:=h
 exact ⟨es,clock,(hb.block b hl).trans h1,h2⟩
theorem zgy {w w':World}{m b o:Nat} (h:w.grownBy w' (some m)) (hne:b≠m) (hl:b<w.heap.size):w'.cell? ⟨b,o,none⟩=w.cell? ⟨b,o,none⟩:=by
 unfold World.cell?
 rw [h.block b hl (by intro e;first | exact hne e | (injection e with e;first | exact hne e | exact hne e.symm))]
set_option maxHeartbeats 3200000 in
theorem zlN (x:Pt) (a:Option Addr) (c b n:Nat) (D:DataW Unit) (known:List ByteArray) {q:Option Nat} (w0 w:World) (hb0:Below w0.heap.size w0 w) (hv:zcl q w0 a x.terms) (hs:zbu Tm.le maxLen x.terms) (hl:x.terms.length≤1048576) (hown0:NMap w b n D) (hI:NInv known D) (hb1:w0.heap.size≤b) (hn:n≤1048576) (hneg:x.neg=false) :
  Calls Tryz.prog 132 #[.agg #[.bool x.neg,.string x.cls,.slice a x.terms.length c],.map (some b)] w fun e w'=>
   e=.returned (.bool (zap x.terms known).isSome)∧Below b w w'∧∀ here,zap x.terms known=some here→∃ n' D',n'≤n+x.terms.length∧NMap w' b n' D'∧NInv here D':=by
 have hbw:=hown0.lt
 rw [hneg]
 go_enter Tryz.func132,Tryz.ntmps132
 go_wp2
 go_loopw [14] (fun i wr=>∃ (k n':Nat) (here:List ByteArray) (D':DataW Unit),k≤x.terms.length∧i=.int .i64 k∧zap x.terms known=zap (x.terms.drop k) here∧n'≤n+k∧NMap wr (b) n' D'∧NInv here D'∧Below (b) w wr) (fun i _=>x.terms.length - (intOf i).toNat)
 case atStart=>exact ⟨0,n,known,D,by omega,rfl,rfl,by omega,hown0.alloc _,hI,(Below.refl _ _).alloc (by omega) _⟩
 case round=>
  obtain ⟨k,n',here,D',hk,rfl,hG,hn',hown,hI',hb⟩:=hrel
  have HG:=zaU hG
  clear hG
  have hbl:=hown.lt
  by_cases hkl:k<x.terms.length
  ·obtain ⟨t,htk⟩:∃ t,x.terms[k]?=some t:=⟨x.terms[k],by simp [hkl]⟩
   obtain ⟨b',o,rfl,hq,c0,c1,c2,c3,c4,c5⟩:=(hv.below (hb0.trans (hb.mono (by omega)))).get htk
   have hst:=(hs.2 t (List.mem_of_getElem? htk)).1
   have HD:Hid (x.terms.drop k=t :: x.terms.drop (k+1)):=zak htk
   have hBa:∀ o,Below (b) w (wr.alloc o):=fun o=>hb.alloc (by have:=hb.size;omega) _
   have hOa:∀ o,NMap (wr.alloc o) (b) n' D':=fun o=>hown.alloc o
   by_cases k2:t.kind=2
   ·have HN:Hid (zap x.terms known=zap (x.terms.drop (k+1)) (here ++ [t.var])):=show zap x.terms known=_ from by rw [HG.out,HD.out,zaX];simp [asks,k2]
    have hI2:=hI'.put (v:=t.var) hown.isMap (.lit (.bool true))
    obtain ⟨w2,hrun,ho2,hg2⟩:=(hown.alloc (.cells #[.int .i64 2,.int .i64 t.op,.string t.var,.int .i64 t.val.kind,.int .i64 t.val.num,.string t.val.sym] 115)).update lawS (t:=226) Tryz.underlying226 (by unfold maxLen;omega) (Go.WideMaps.keyOf_string_mk Tryz.underlying9 hst) (show ziA (.agg #[])=some (.lit (.bool true),[]) from rfl)
    have HO2:=zaU ho2
    have HG2:=zaU hg2
    have d0:w2.cell? ⟨wr.heap.size,0,none⟩=some (.int .i64 2):=by
     rw [zgy hg2 (by omega) (by simp)]
     simp [go_sem]
    have hBb:=hBa (.cells #[.int .i64 2,.int .i64 t.op,.string t.var,.int .i64 t.val.kind,.int .i64 t.val.num,.string t.val.sym] 115)
    have hB2:Below (b) w w2:=hBb.grown hg2 (by have:=hb.size;simp;omega) (fun j hj=>by cases hj;omega)
    clear ho2 hg2 hOa hBa
    rw [k2] at c0
    go_wp2
    clear hrun
    go_roundw
    case rel=>exact ⟨k+1,n'+1,_,_,by omega,by go_num,HN.out,by omega,HO2.out,hI2,hB2⟩
    case measure=>simp [intOf];omega
   ·by_cases k3:t.kind=3∧t.var.toList.isEmpty=false
    ·obtain ⟨k3,v0⟩:=k3
     have hH:=zgZ (b) n' D' here t.var hI' hst
     cases hm:memB t.var here
     all_goals
      rw [hm] at hH
      go_wp2_with (go_at_call 154;refine (hH.out _ (hOa _)).mono ?_;rintro e' w1 ⟨rfl,hb1⟩)
     ·have HN:Hid (zap x.terms known=none):=show zap x.terms known=none from by rw [HG.out,HD.out,zaX];simp [asks,k3,isE,hm];intro h;simp [h] at v0
      go_ret
      exact ⟨zac (by rw [HN.out];rfl),(hBa _).trans (hb1.mono (by simp;omega)),fun h e=>(by rw [HN.out] at e;cases e)⟩
     ·have HN:Hid (zap x.terms known=zap (x.terms.drop (k+1)) here):=show zap x.terms known=_ from by rw [HG.out,HD.out,zaX];simp [k3,hm]
      go_roundw
      case rel=>exact ⟨k+1,n',_,_,by omega,by go_num,HN.out,by omega,zm9 (hOa _) hb1,hI',(hBa _).trans (hb1.mono (by have:=(hBa default).size;have:=hb.size;simp;omega))⟩
      case measure=>simp [intOf];omega
    ·have HN:Hid (zap x.terms known=zap (x.terms.drop (k+1)) here):=show zap x.terms known=_ from by
      have ha:asks t=false:=by
       unfold asks isE
       by_cases h3:t.kind=3
       ·have:t.var.toList.isEmpty=true:=by cases h:t.var.toList.isEmpty <;> simp_all
        simp [this]
       ·simp [h3]
      rw [HG.out,HD.out,zaX,ha]
      simp [k2]
     by_cases h3:t.kind=3
     ·have hve:t.var.toList.isEmpty=true:=by cases h:t.var.toList.isEmpty <;> simp_all
      clear k3
      go_wp2
      go_roundw
      case rel=>exact ⟨k+1,n',_,_,by omega,by go_num,HN.out,by omega,hOa _,hI',hBa _⟩
      case measure=>simp [intOf];omega
     ·clear k3
      go_wp2
      go_roundw
      case rel=>exact ⟨k+1,n',_,_,by omega,by go_num,HN.out,by omega,hOa _,hI',hBa _⟩
      case measure=>simp [intOf];omega
  ·have HN:Hid (zap x.terms known=some here):=show zap x.terms known=_ from by
    rw [HG.out,List.drop_eq_nil_of_le (by omega)]
    rfl
   go_wp2
   go_ret
   exact ⟨zac (by rw [HN.out];rfl),hb,fun h e=>(by rw [HN.out] at e;injection e with e;subst e;exact ⟨n',D',by omega,hown,hI'⟩)⟩
end Go.Proofs.YtmmdlgjmplddiaaGreat
namespace Go.Proofs.YtmmdlgjmplddiaaGreat
open Go.RowKit
attribute [local go_sem ↓] Go.wp_at_zero Go.wp_at_succ
theorem zoB (r1 r2 r3:Int) (w:World) (g:Nat) (ty:TypeId) (hg:g=w.heap.size) :
  Calls Tryz.prog 77 #[.slice (some ⟨g,0,none⟩) 3 3] (w.alloc (.cells #[.int .i64 r1,.int .i64 r2,.int .i64 r3] ty)) fun e w'=>e=.returned (.int .i64 (orI [r1,r2,r3]))∧w'=w.alloc (.cells #[.int .i64 r1,.int .i64 r2,.int .i64 r3] ty):=
 znU (some ⟨g,0,none⟩) 3 [r1,r2,r3] _ (zlI w g r1 r2 r3 ty hg) (by simp)
set_option maxRecDepth 100000 in
set_option maxHeartbeats 3200000 in
theorem zk0 (sx sy:Int) (xr yr:List Int) (x y:In) (a1 a2 b1 b2:Option Addr) (c1 c2 d1 d2:Nat) (w:World) {q1 q2 q3 q4:Option Nat} (hx1:zas q1 w a1 xr) (hx2:zas q2 w a2 x.tags) (hy1:zas q3 w b1 yr) (hy2:zas q4 w b2 y.tags) (hl:x.tags.length≤1048576) (hl':y.tags.length≤1048576) (hr1:xr.length≤1048576) (hr2:yr.length≤1048576) :
  Calls Tryz.prog 44 #[.agg #[.int .i64 sx,.slice a1 xr.length c1,.int .i64 x.rule,.slice a2 x.tags.length c2],.agg #[.int .i64 sy,.slice b1 yr.length d1,.int .i64 y.rule,.slice b2 y.tags.length d2]] w fun e w'=>
   e=.returned (.bool (decide (orI [Lib.compareInt sy sx,lexC yr xr,orI [Lib.compareInt x.rule y.rule,lexC x.tags y.tags]]<0)))∧Below w.heap.size w w':=by
 have B2:∀ o o',Below w.heap.size w (((w.alloc o).alloc o').drew):=fun o o'=>(((Below.refl _ _).alloc (Nat.le_refl _) _).alloc (by simp) _).drew
 have HL:=hidB (fun o o'=>zfV b1 a1 d1 c1 yr xr (((w.alloc o).alloc o').drew) (hy1.below (B2 o o')) (hx1.below (B2 o o')) hr2 hr1)
 have HI:=hidB (fun o o'=>ziM x y a2 b2 c2 d2 (((w.alloc o).alloc o').drew) (hx2.below (B2 o o')) (hy2.below (B2 o o')) hl hl')
 have HC:=hidB (zmH sy sx)
 generalize Lib.compareInt sy sx=r1 at HC ⊢
 generalize lexC yr xr=r2 at HL ⊢
 generalize orI [Lib.compareInt x.rule y.rule,lexC x.tags y.tags]=r3 at HI ⊢
 have HO:=hidB (zoB r1 r2 r3)
 generalize orI [r1,r2,r3]=r at HO ⊢
 have HB2:=hidB B2
 clear hx1 hx2 hy1 hy2 B2
 go_enter Tryz.func44,Tryz.ntmps44
 go_wp2
 go_region_held3 (fun w'=>w'.cell? ⟨w.heap.size,0,none⟩=some (.int .i64 sx)∧w'.cell? ⟨w.heap.size,1,none⟩=some (.slice a1 xr.length c1)∧w'.cell? ⟨w.heap.size,2,none⟩=some (.int .i64 x.rule)∧w'.cell? ⟨w.heap.size,3,none⟩=some (.slice a2 x.tags.length c2)∧w'.cell? ⟨w.heap.size+1,0,none⟩=some (.int .i64 sy)∧w'.cell? ⟨w.heap.size+1,1,none⟩=some (.slice b1 yr.length d1)∧w'.cell? ⟨w.heap.size+1,2,none⟩=some (.int .i64 y.rule)∧w'.cell? ⟨w.heap.size+1,3,none⟩=some (.slice b2 y.tags.length d2)) (first | (go_split_ands;(refine ⟨?_,?_,?_,?_,?_,?_,?_,?_⟩ <;> first | with_reducible assumption | (simp [*];done) | with_reducible exact zaa hb1 (by assumption) | with_reducible exact zaa ((Below.refl _ _).alloc (Nat.le_refl _) _) (by assumption));done) | fail)
  (first
   | (go_at_call 78;with_reducible refine (HC.out _).mono ?_;rintro e w1 ⟨rfl,rfl⟩)
   | (go_at_call 79;with_reducible refine (HL.out _ _).mono ?_;rintro e w1 ⟨rfl,rfl⟩)
   | (go_at_call 80;with_reducible refine (HI.out _ _).mono ?_;rintro e w1 ⟨rfl,hb1⟩)
   | (go_at_call 77;with_reducible refine (HO.out _ _ _ (by simp)).mono ?_;rintro e w2 ⟨rfl,rfl⟩)
   | fail)
 go_wp2_with fail
 go_ret
 exact ⟨rfl,((HB2.out _ _).trans (hb1.mono (by simp;omega))).alloc (by have:=hb1.size;simp at this;omega) _⟩
theorem zhX (rs:List Ru) (x y:In) (a1 a2 b1 b2:Option Addr) (c1 c2 d1 d2:Nat) (w:World) {q1 q2 q3 q4:Option Nat} (hx1:zas q1 w a1 (recA x.tags)) (hx2:zas q2 w a2 x.tags) (hy1:zas q3 w b1 (recA y.tags)) (hy2:zas q4 w b2 y.tags) (hl:x.tags.length≤1048576) (hl':y.tags.length≤1048576) :
  Calls Tryz.prog 44 #[enV rs x a1 c1 a2 c2,enV rs y b1 d1 b2 d2] w fun e w'=>e=.returned (.bool (befI rs x y))∧Below w.heap.size w w':=
 zk0 (zaZ rs x) (zaZ rs y) (recA x.tags) (recA y.tags) x y a1 a2 b1 b2 c1 c2 d1 d2 w hx1 hx2 hy1 hy2 hl hl' (by have:=ze6 x.tags;omega) (by have:=ze6 y.tags;omega)
end Go.Proofs.YtmmdlgjmplddiaaGreat
