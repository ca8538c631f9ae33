/-
  OUR OWN TEXT. Fw2, Fw3, Fw4h, Fw4, Fw5, Fw6, Fw9, Fw10h, one behind the other.
-/
import Derived.Test.YtjjjagepnnbebaaGreatDoorKal
import Derived.Test.YtjjjagepnnbebaaGreatDoorKac
import Derived.Test.YtjjjagepnnbebaaGreatDoorDr0m
import Derived.Test.YtjjjagepnnbebaaGreatDoorKai
import Derived.Deep.RegionLaw
import Derived.Laws.BytesArg
import Derived.Deep.DeepCutAuto
set_option maxHeartbeats 12800000
set_option maxRecDepth 100000
namespace Go.Proofs.YtjjjagepnnbebaaGreatDoor
open Go.RowKit
attribute [local go_sem ↓] Go.wp_at_zero Go.wp_at_succ
theorem zbn{g b:Nat}{l:Bs}{w w':World}{o:Obj}(h:Rs g l w w')(hb:w.heap[b]?=some o)(E:b≠g):w'.heap[b]?=some o:=
 (h.1.block b (zab hb) (fun e=>E (by injection e with e;exact e.symm))).trans hb
theorem zru{g b o:Nat}{l:Bs}{w w':World}{v:Value}(h:Rs g l w w')(hb:w.cell? ⟨b,o,none⟩=some v)(E:b≠g):w'.cell? ⟨b,o,none⟩=some v:=by
 rw[<- hb];exact World.cell?_of_block (w:=w) (h.1.block b (World.block_lt_of_cell? w ⟨b,o,none⟩ hb) (fun e=>E (by injection e with e;exact e.symm)))
def GCl(s:ByteArray):Prop:=s.size<=20/\gCls s=true
def GNm(s:ByteArray):Prop:=s.size<=20/\gSym s.data.toList=true
theorem zhb(c:Nat)(w:World):Calls Tryz.prog 78 #[.int .i64 (c:Int)] w fun e w'=>∃ s:ByteArray,GCl s/\e=.returned (.string s)/\Below w.heap.size w w'/\Hid (s=clsF c):=by
 have h3:c % 3=0∨c % 3=1∨c % 3=2:=by omega
 rcases h3 with h | h | h
 all_goals
  go_enter Tryz.func78,Tryz.ntmps78;go_wp2;go_ret;exact ⟨_,⟨by decide,by decide⟩,rfl,(Below.refl _ _).alloc (Nat.le_refl _) _,show _=clsF c by unfold clsF;rw[h];rfl⟩
theorem zl9(c:Nat)(w:World):Calls Tryz.prog 128 #[.int .i64 (c:Int)] w fun e w'=>∃ s:ByteArray,GNm s/\e=.returned (.string s)/\Below w.heap.size w w'/\Hid (s=namF c):=by
 have h3:c % 3=0∨c % 3=1∨c % 3=2:=by omega
 rcases h3 with h | h | h
 all_goals
  go_enter Tryz.func128,Tryz.ntmps128;go_wp2;go_ret;exact ⟨_,⟨by decide,by decide⟩,rfl,(Below.refl _ _).alloc (Nat.le_refl _) _,show _=namF c by unfold namF;rw[h];rfl⟩
def vV(v:V):Value:=.agg #[.int .i64 v.kind,.int .i64 v.num,.string v.sym]
theorem znh(s:ByteArray)(w:World):Calls Tryz.prog 156 #[.string s] w fun e w'=>e=.returned (vV (1,0,s))/\Below w.heap.size w w':=by
 go_enter Tryz.func156,Tryz.ntmps156;go_wp2;exact bodyPost_ret (v:=vV (1,0,s)) (by simp[results,Tryz.results156,go_sem,vV,V.kind,V.num,V.sym]) rfl ⟨rfl,(Below.refl _ _).alloc (Nat.le_refl _) _⟩
theorem zhE(n:Int)(w:World):Calls Tryz.prog 157 #[.int .i64 n] w fun e w'=>e=.returned (vV (0,n,⟨#[]⟩))/\Below w.heap.size w w':=by
 go_enter Tryz.func157,Tryz.ntmps157;go_wp2;exact bodyPost_ret (v:=vV (0,n,⟨#[]⟩)) (by simp[results,Tryz.results157,go_sem,vV,V.kind,V.num,V.sym]) rfl ⟨rfl,(Below.refl _ _).alloc (Nat.le_refl _) _⟩
def VSm(v:V):Prop:=v.sym.size<=20/\(-9223372036854775808<=v.kind/\v.kind<=9223372036854775807) /\ -9223372036854775808<=v.num/\v.num<=9223372036854775807/\gVal v=true
theorem zql(s:ByteArray)(h:s.size<=20)(hg:gVal (1,0,s)=true):VSm (1,0,s):=⟨h,⟨show (_:Int)<=1 by decide,show (1:Int)<=_ by decide⟩,show (_:Int)<=0 by decide,show (0:Int)<=_ by decide,hg⟩
theorem zj9(n:Int)(h1:-9223372036854775808<=n)(h2:n<=9223372036854775807):VSm (0,n,⟨#[]⟩):=⟨Nat.zero_le 20,⟨show (_:Int)<=0 by decide,show (0:Int)<=_ by decide⟩,h1,h2,zoK n⟩
theorem ze9:VSm (0,0,⟨#[]⟩):=zj9 0 (by decide) (by decide)
theorem box3{w:World}{b:Nat}{t:TypeId}{v:V}(h:w.heap[b]?=some (.cells (V.cells v).toArray t (0,0))):w.cell? ⟨b,0,none⟩=some (.int .i64 v.kind)/\w.cell? ⟨b,1,none⟩=some (.int .i64 v.num)/\w.cell? ⟨b,2,none⟩=some (.string v.sym):=by
 refine ⟨?_,?_,?_⟩ <;> simp[World.cell?,h,V.cells]
theorem zgN:(Tryz.prog.info? 93).map (·.size)=some 3:=by kernel_rfl
theorem V.cells_one(v:V):∀ u∈V.cells v,u.oneCell'=true:=by
 intro u E;simp[V.cells]at E;rcases E with rfl | rfl | rfl <;> rfl
theorem Rs.turned{g b:Nat}{l:Bs}{u v w:World}(h:Rs g l u v)(ht:Turned v w b)(hb:u.heap.size<=b)(hg:g<u.heap.size):Rs g l u w:=by
 refine ⟨⟨h.1.rest.trans (ht.below (Nat.zero_le _)),fun k hk E=>(ht.block k (by omega)).trans (h.1.block k hk E)⟩,?_⟩;exact h.2.old (ht.below (by omega))
theorem abs3{Q:V->Prop}{w:World}{b:Nat}{t:TypeId}{v:V}(h:Hid (w.heap[b]?=some (.cells (V.cells v).toArray t (0,0))))(hv:Q v):∃ v:V,Q v/\w.cell? ⟨b,0,none⟩=some (.int .i64 v.kind)/\w.cell? ⟨b,1,none⟩=some (.int .i64 v.num)/\w.cell? ⟨b,2,none⟩=some (.string v.sym):=⟨v,hv,box3 h.out⟩
theorem zc9(g:Nat)(l:Bs)(w:World)(h:Rdr w g l):Calls Tryz.prog 127 #[.pointer (some ⟨g,0,none⟩)] w fun e w'=>∃ v:V,(VSm v/\Hid (v=valF (nxc l)))/\e=.returned (vV v)/\Rs g l.tail w w':=by
 have H:=hidR h;have Z:=h.lt;clear h;have HB:=hidR (fun o=>(H.out.bel ((Below.refl _ _).alloc (Nat.le_refl _) o)));go_enter Tryz.func127,Tryz.ntmps127;go_wp2_with fail
 refine (zbQ g l _ (HB.out _)).mono ?_;rintro e w1 ⟨c,hc,rfl,hr,ae⟩;have U:=hidR (zbn hr (heap_alloc_new _ _) (by omega));have hR:=hidR (((Rs.of H.out ((Below.refl _ _).alloc (Nat.le_refl _) _)).trans hr));have ab:w.heap.size<w1.heap.size:=zab U.out;clear hr HB;have HA:=zHA w1;by_cases h3:c % 3=0
 ·have hk:c / 3 % 3=0∨c / 3 % 3=1∨c / 3 % 3=2:=by omega
  rcases hk with hk | hk | hk
  all_goals
   go_wp2_with fail
   refine (znh _ _).mono ?_;rintro e w2 ⟨rfl,I⟩;have E:=hidR ((HA.out _).trans (I.mono (HA.out _).size));have af:=E.out.size;clear I;go_wp2_with (first | (refine zac (by rfl) 93 (.tmp 2) (.tmp 16) (by rfl) w.heap.size (V.cells (1,0,_)) (by rfl) (by rfl) _ 93 ((E.out.block _ ab).trans U.out) (by rfl) zgN (V.cells_one _) ?_;intro w3 G O;obtain ⟨v,hv,f0,f1,f2⟩:=abs3 (Q:=fun v=>VSm v/\Hid (v=valF (nxc l))) G ⟨zql _ (by first | decide | exact Nat.zero_le 20) (by decide),show _=valF (nxc l) by rw[ae.out];unfold valF;rw[if_pos h3,hk];rfl⟩;clear G) | fail);exact bodyPost_ret (v:=vV v) (by simp[results,Tryz.results127,go_sem,f0,f1,f2,vV]) rfl ⟨v,hv,rfl,(hR.out.bel E.out).turned O.out (Nat.le_refl _) Z⟩
 have ag:¬ (c:Int) % 3=0:=by omega
 by_cases X:250<=c
 ·have ad:(250:Int)<=(c:Int):=by omega
  have hk:c % 4=1∨c % 4=2∨c % 4=3:=by omega
  rcases hk with hk | hk | hk
  all_goals
   go_wp2_with fail
   refine (zhE _ _).mono ?_;rintro e w2 ⟨rfl,I⟩;have E:=hidR ((HA.out _).trans (I.mono (HA.out _).size));have af:=E.out.size;clear I;go_wp2_with (first | (refine zac (by rfl) 93 (.tmp 2) (.tmp 25) (by rfl) w.heap.size (V.cells (0,_,_)) (by rfl) (by rfl) _ 93 ((E.out.block _ ab).trans U.out) (by rfl) zgN (V.cells_one _) ?_;intro w3 G O;obtain ⟨v,hv,f0,f1,f2⟩:=abs3 (Q:=fun v=>VSm v/\Hid (v=valF (nxc l))) G ⟨zj9 _ (by first | decide | omega) (by first | decide | omega),show _=valF (nxc l) by rw[ae.out];unfold valF;rw[if_neg h3,if_pos X,hk];rfl⟩;clear G) | fail);exact bodyPost_ret (v:=vV v) (by simp[results,Tryz.results127,go_sem,f0,f1,f2,vV]) rfl ⟨v,hv,rfl,(hR.out.bel E.out).turned O.out (Nat.le_refl _) Z⟩
 have ad:¬ (250:Int)<=(c:Int):=by omega
 go_wp2_with fail
 refine (zhE _ _).mono ?_;rintro e w2 ⟨rfl,I⟩
 ·have E:=hidR I;have af:=E.out.size;clear I;go_wp2_with (first | (refine zac (by rfl) 93 (.tmp 2) (.tmp 30) (by rfl) w.heap.size (V.cells (0,_,_)) (by rfl) (by rfl) _ 93 ((E.out.block _ ab).trans U.out) (by rfl) zgN (V.cells_one _) ?_;intro w3 G O;obtain ⟨v,hv,f0,f1,f2⟩:=abs3 (Q:=fun v=>VSm v/\Hid (v=valF (nxc l))) G ⟨zj9 _ (by first | decide | omega) (by first | decide | omega),show _=valF (nxc l) by rw[ae.out];unfold valF;rw[if_neg h3,if_neg X];first | rfl | (congr 2;done) | (congr 2;omega)⟩;clear G) | fail);exact bodyPost_ret (v:=vV v) (by simp[results,Tryz.results127,go_sem,f0,f1,f2,vV]) rfl ⟨v,hv,rfl,(hR.out.bel E.out).turned O.out (Nat.le_refl _) Z⟩
def GK(K:List ByteArray)(s:ByteArray):Prop:=s.size<=20/\gSym s.data.toList=true/\s∈K
def zgl(K:List ByteArray)(w:World)(g:Nat)(a:Option Addr)(n:Nat):Prop:=(n<=1048576/\n=K.length)/\∀ j,j<n->∃ (b o:Nat) (s:ByteArray),a=some ⟨b,o,none⟩/\g<b/\(GK K s/\K[j]?=some s)/\w.cell? ⟨b,o+j,none⟩=some (.string s)
theorem zgl.rs{K:List ByteArray}{w w':World}{g:Nat}{l:Bs}{a:Option Addr}{n:Nat}(h:zgl K w g a n)(hr:Rs g l w w'):zgl K w' g a n:=by
 refine ⟨h.1,fun j hj=>?_⟩;obtain ⟨b,o,s,h1,h2,h3,E⟩:=h.2 j hj;exact ⟨b,o,s,h1,h2,h3,zru hr E (by omega)⟩
theorem zgl.bel{K:List ByteArray}{w w':World}{g:Nat}{a:Option Addr}{n:Nat}(h:zgl K w g a n)(hb:Below w.heap.size w w'):zgl K w' g a n:=by
 refine ⟨h.1,fun j hj=>?_⟩;obtain ⟨b,o,s,h1,h2,h3,E⟩:=h.2 j hj;exact ⟨b,o,s,h1,h2,h3,zaa hb E⟩
def zbA(t:Tm):List Value:=[.int .i64 t.kind,.int .i64 t.op,.string t.var,.int .i64 t.val.kind,.int .i64 t.val.num,.string t.val.sym]
def tmV(t:Tm):Value:=.agg (zbA t).toArray
def TmSm(t:Tm):Prop:=t.var.size<=20/\VSm t.val/\gTm t=true
def zfS(K:List ByteArray)(t:Tm):Prop:=TmSm t/\(asks t=true->memB t.var K=true)
theorem zsj(K:List ByteArray):zfS K ⟨0,0,⟨#[]⟩,(0,0,⟨#[]⟩)⟩:=⟨⟨Nat.zero_le 20,ze9,by simp[gTm,zdo,zc6]⟩,fun h=>by simp[asks]at h⟩
theorem zpJ(K:List ByteArray){v:V}(hv:VSm v):zfS K ⟨1,0,⟨#[]⟩,v⟩:=⟨⟨Nat.zero_le 20,hv,by simp[gTm,zdo,hv.2.2.2.2]⟩,fun h=>by simp[asks]at h⟩
theorem zrU(K:List ByteArray){s:ByteArray}(hs:GNm s):zfS K ⟨2,0,s,(0,0,⟨#[]⟩)⟩:=⟨⟨hs.1,ze9,by simp[gTm,hs.2,zc6]⟩,fun h=>by simp[asks]at h⟩
theorem zpj{K:List ByteArray}{s:ByteArray}{op:Int}(h1:1<=op)(E:op<=6)(hs:GK K s):zfS K ⟨3,op,s,(0,0,⟨#[]⟩)⟩:=⟨⟨hs.1,ze9,by simp[gTm,zbo,hs.2.1,zc6,h1,E]⟩,fun _=>List.any_eq_true.2 ⟨s,hs.2.2,by simp⟩⟩
theorem zlu(K:List ByteArray){v:V}{op:Int}(h1:1<=op)(E:op<=6)(hv:VSm v):zfS K ⟨3,op,⟨#[]⟩,v⟩:=⟨⟨Nat.zero_le 20,hv,by simp[gTm,zbo,zdo,hv.2.2.2.2,h1,E]⟩,fun h=>by simp[asks,zdo]at h⟩
theorem zcr(t:Tm):∀ u∈zbA t,u.oneCell'=true:=by
 intro u E;simp[zbA]at E;rcases E with rfl | rfl | rfl | rfl | rfl | rfl <;> rfl
theorem zfZ:(Tryz.prog.info? 95).map (·.size)=some 6:=by kernel_rfl
theorem box6{w:World}{b:Nat}{E:TypeId}{t:Tm}(h:w.heap[b]?=some (.cells (zbA t).toArray E (0,0))):w.cell? ⟨b,0,none⟩=some (.int .i64 t.kind)/\w.cell? ⟨b,1,none⟩=some (.int .i64 t.op)/\w.cell? ⟨b,2,none⟩=some (.string t.var)/\w.cell? ⟨b,3,none⟩=some (.int .i64 t.val.kind)/\w.cell? ⟨b,4,none⟩=some (.int .i64 t.val.num)/\w.cell? ⟨b,5,none⟩=some (.string t.val.sym):=by
 refine ⟨?_,?_,?_,?_,?_,?_⟩ <;> simp[World.cell?,h,zbA]
theorem abs6{Q:Tm->Prop}{w:World}{b:Nat}{E:TypeId}{t:Tm}(h:Hid (w.heap[b]?=some (.cells (zbA t).toArray E (0,0))))(hv:Q t):∃ t:Tm,Q t/\w.cell? ⟨b,0,none⟩=some (.int .i64 t.kind)/\w.cell? ⟨b,1,none⟩=some (.int .i64 t.op)/\w.cell? ⟨b,2,none⟩=some (.string t.var)/\w.cell? ⟨b,3,none⟩=some (.int .i64 t.val.kind)/\w.cell? ⟨b,4,none⟩=some (.int .i64 t.val.num)/\w.cell? ⟨b,5,none⟩=some (.string t.val.sym):=⟨t,hv,box6 h.out⟩
theorem cells6{w:World}{b:Nat}{G:TypeId}{x0 x1 x2 x3 x4 E:Value}(h:w.heap[b]?=some (.cells #[x0,x1,x2,x3,x4,E] G (0,0))):w.cell? ⟨b,0,none⟩=some x0/\w.cell? ⟨b,1,none⟩=some x1/\w.cell? ⟨b,2,none⟩=some x2/\w.cell? ⟨b,3,none⟩=some x3/\w.cell? ⟨b,4,none⟩=some x4/\w.cell? ⟨b,5,none⟩=some E:=by
 refine ⟨?_,?_,?_,?_,?_,?_⟩ <;> simp[World.cell?,h]
theorem frozen6{w:World}{b:Nat}{E:TypeId}{c:Array Value}(h:w.heap[b]?=some (.cells c E (0,0)))(j:Nat):w.frozen? ⟨b,j,none⟩=false:=by
 simp[World.frozen?,h]
theorem Rs.setOwn{g b o:Nat}{l:Bs}{u v:World}{x:Value}(h:Rs g l u v)(hb:u.heap.size<=b)(hg:g<u.heap.size):Rs g l u (v.setCell ⟨b,o,none⟩ x):=
 ⟨⟨h.1.rest.setCell (Nat.zero_le _) _,fun k hk E=>(Below.heap_setCell _ _ _ _ (by simp;omega)).trans (h.1.block k hk E)⟩,h.2.old ((Below.refl _ _).setCell (by simp;omega) _)⟩
theorem zhr(K:List ByteArray)(g:Nat)(l:Bs)(a:Option Addr)(n cp:Nat)(w:World)(h:Rdr w g l)(hs:zgl K w g a n):Calls Tryz.prog 79 #[.pointer (some ⟨g,0,none⟩),.slice a n cp] w fun e w'=>∃ t:Tm,(zfS K t/\Hid (t=(zbV K l).1))/\e=.returned (tmV t)/\Rs g (zbV K l).2 w w':=by
 have H:=hidR h;have HS:=hidR hs;have O:=h.lt;clear h hs;have HB:=hidR (fun o=>(H.out.bel ((Below.refl _ _).alloc (Nat.le_refl _) o)));go_enter Tryz.func79,Tryz.ntmps79;go_wp2_with fail
 refine (zbQ g l _ (HB.out _)).mono ?_;rintro e w1 ⟨c,hc,rfl,hr,ab⟩;have ak:=hidR HS.out.1.2;have X:=hidR (zbn hr (heap_alloc_new _ _) (by omega));have hR:=hidR (((Rs.of H.out ((Below.refl _ _).alloc (Nat.le_refl _) _)).trans hr));have aj:w.heap.size<w1.heap.size:=zab X.out;have aq:=hidR (HS.out.rs hR.out);clear hr HB HS;have HA:=zHA w1;have h8:c % 8=0∨(c % 8=1∨c % 8=2)∨c % 8=3∨(4<=c % 8):=by omega
 rcases h8 with h8 | h8 | h8 | h8
 ·have HT:Hid (zbV K l=(⟨0,0,wS [],zvF⟩,l.tail)):=show _=_ from by unfold zbV;rw[ab.out,if_pos h8]
  have ad:=hidR (Below.refl w1.heap.size w1);go_wp2_with (first | (refine zac (by rfl) 95 (.tmp 4) (.tmp 13) (by rfl) w.heap.size (zbA ⟨0,0,⟨#[]⟩,(0,0,⟨#[]⟩)⟩) (by rfl) (by rfl) _ 95 ((ad.out.block _ aj).trans X.out) (by rfl) zfZ (zcr _) ?_;intro w3 G U;obtain ⟨t,ht,f0,f1,f2,f3,f4,f5⟩:=abs6 (Q:=fun t=>zfS K t/\Hid (t=(zbV K l).1)) G ⟨zsj K,show _=(zbV K l).1 by rw[HT.out];first | rfl | (congr 1;first | omega | (push_cast;rfl))⟩;clear G) | fail);exact bodyPost_ret (v:=tmV t) (by simp[results,Tryz.results79,go_sem,f0,f1,f2,f3,f4,f5,tmV,zbA]) rfl ⟨t,ht,rfl,by rw[HT.out];exact (hR.out.bel ad.out).turned U.out (Nat.le_refl _) O⟩
 ·have ah:Hid (zbV K l=(⟨1,0,wS [],valF (nxc l.tail)⟩,l.tail.tail)):=show _=_ from by unfold zbV;rw[ab.out,if_neg (by omega),if_pos h8]
  rcases h8 with h8 | h8
  all_goals
   go_wp2_with fail
   refine (zc9 g l.tail _ hR.out.2).mono ?_;rintro e w2 ⟨v,⟨hv,ae⟩,rfl,E⟩;have HT:Hid (zbV K l=(⟨1,0,wS [],v⟩,l.tail.tail)):=show _=_ from by rw[ae.out];exact ah.out
   clear ae;have Z:=hidR (zbn E X.out (by omega));have af:=hidR (hR.out.trans E);have au:=E.1.rest.size;clear E X hR;unfold vV;go_wp2_with (first | (refine zac (by rfl) 95 (.tmp 4) (.tmp 19) (by rfl) w.heap.size (zbA ⟨1,0,⟨#[]⟩,v⟩) (by rfl) (by rfl) _ 95 (Z.out) (by rfl) zfZ (zcr _) ?_;intro w3 G U;obtain ⟨t,ht,f0,f1,f2,f3,f4,f5⟩:=abs6 (Q:=fun t=>zfS K t/\Hid (t=(zbV K l).1)) G ⟨zpJ K hv,show _=(zbV K l).1 by rw[HT.out];first | rfl | (congr 1;first | omega | (push_cast;rfl))⟩;clear G) | fail);exact bodyPost_ret (v:=tmV t) (by simp[results,Tryz.results79,go_sem,f0,f1,f2,f3,f4,f5,tmV,zbA]) rfl ⟨t,ht,rfl,by rw[HT.out];exact af.out.turned U.out (Nat.le_refl _) O⟩
 ·have ag:=hidR (fun o=>hR.out.2.bel (HA.out o));by_cases ar:0<n/\100<=c
  ·obtain ⟨al,ax⟩:=ar;have aC:(0:Int)<(n:Int):=by omega
   have ap:(100:Int)<=(c:Int):=by omega
   go_wp2_with fail
   refine (zbQ g l.tail _ (ag.out _)).mono ?_;rintro e w2 ⟨c2,aH,rfl,E,ao⟩;have af:=hidR (((hR.out.bel (HA.out _)).trans E));have I:=hidR (zbn E (heap_alloc_new _ _) (by omega));have Z:=hidR (zbn E (((HA.out _).block _ aj).trans X.out) (by omega));have aB:=hidR ((aq.out.bel (HA.out _)).rs E);have au:w1.heap.size<w2.heap.size:=zab I.out;obtain ⟨k,hk⟩:∃ k,k=c2 % n:=⟨_,rfl⟩
   have aA:=hidR hk;have aE:k<n:=by rw[hk];exact Nat.mod_lt _ al
   have aK:(c2:Int) % (n:Int)=(k:Int):=by rw[hk];omega
   have aM:(k:Int)<(n:Int):=by omega
   have aF:(0:Int)<=(k:Int):=by omega
   obtain ⟨b,o,s,rfl,aL,ay,aI⟩:=aB.out.2 k aE;have HT:Hid (zbV K l=(⟨3,1+((c / 8 % 6:Nat):Int),s,zvF⟩,l.tail.tail)):=show _=_ from by unfold zbV;rw[ab.out,if_neg (by omega),if_neg (by omega),if_pos h8,if_pos ⟨by rw[<- ak.out];exact al,ax⟩,ao.out,<- ak.out,<- aA.out];simp[List.getD,ay.2]
   clear ao aA;obtain ⟨t0,t1,t2,t3,t4,t5⟩:=cells6 I.out;have z2:=frozen6 I.out 2;clear E hk I aB X hR HA ag aq;go_wp2_with (first | (refine zac (by rfl) 95 (.tmp 4) (.tmp 46) (by rfl) w.heap.size (zbA ⟨3,_,s,(0,0,⟨#[]⟩)⟩) (by rfl) (by rfl) _ 95 ((Below.heap_setCell _ _ _ _ (by simp;omega)).trans Z.out) (by rfl) zfZ (zcr _) ?_;intro w3 G U;obtain ⟨t,ht,f0,f1,f2,f3,f4,f5⟩:=abs6 (Q:=fun t=>zfS K t/\Hid (t=(zbV K l).1)) G ⟨zpj (by omega) (by omega) ay.1,show _=(zbV K l).1 by rw[HT.out];first | rfl | (congr 1;first | omega | (push_cast;rfl))⟩;clear G) | fail);exact bodyPost_ret (v:=tmV t) (by simp[results,Tryz.results79,go_sem,f0,f1,f2,f3,f4,f5,tmV,zbA]) rfl ⟨t,ht,rfl,by rw[HT.out];exact (af.out.setOwn (b:=w1.heap.size) (by omega) O).turned U.out (Nat.le_refl _) O⟩
  by_cases al:n=0
  focus
   have ah:Hid (zbV K l=(⟨3,1+((c / 8 % 6:Nat):Int),wS [],valF (nxc l.tail)⟩,l.tail.tail)):=show _=_ from by unfold zbV;rw[ab.out,if_neg (by omega),if_neg (by omega),if_pos h8,if_neg (by rw[<- ak.out];exact ar)]
   subst al
  rotate_left
  focus
   have ah:Hid (zbV K l=(⟨3,1+((c / 8 % 6:Nat):Int),wS [],valF (nxc l.tail)⟩,l.tail.tail)):=show _=_ from by unfold zbV;rw[ab.out,if_neg (by omega),if_neg (by omega),if_pos h8,if_neg (by rw[<- ak.out];exact ar)]
   have aC:(0:Int)<(n:Int):=by omega
   have ap:¬ (100:Int)<=(c:Int):=by omega
  rotate_left
  all_goals
   go_wp2_with fail
   refine (zc9 g l.tail _ (ag.out _)).mono ?_;rintro e w2 ⟨v,⟨hv,ae⟩,rfl,E⟩;have HT:Hid (zbV K l=(⟨3,1+((c / 8 % 6:Nat):Int),wS [],v⟩,l.tail.tail)):=show _=_ from by rw[ae.out];exact ah.out
   clear ae;have af:=hidR (((hR.out.bel (HA.out _)).trans E));have I:=hidR (zbn E (heap_alloc_new _ _) (by omega));have Z:=hidR (zbn E (((HA.out _).block _ aj).trans X.out) (by omega));have au:w1.heap.size<w2.heap.size:=zab I.out;obtain ⟨t0,t1,t2,t3,t4,t5⟩:=cells6 I.out;have z3:=frozen6 I.out 3;have z4:=frozen6 I.out 4;have z5:=frozen6 I.out 5;clear E I X hR HA ag aq;unfold vV;go_wp2_with (first | (refine zac (by rfl) 95 (.tmp 4) (.tmp 46) (by rfl) w.heap.size (zbA ⟨3,_,⟨#[]⟩,v⟩) (by rfl) (by rfl) _ 95 ((((Below.heap_setCell _ _ _ _ (by simp;omega)).trans (Below.heap_setCell _ _ _ _ (by simp;omega))).trans (Below.heap_setCell _ _ _ _ (by simp;omega))).trans Z.out) (by rfl) zfZ (zcr _) ?_;intro w3 G U;obtain ⟨t,ht,f0,f1,f2,f3,f4,f5⟩:=abs6 (Q:=fun t=>zfS K t/\Hid (t=(zbV K l).1)) G ⟨zlu K (by omega) (by omega) hv,show _=(zbV K l).1 by rw[HT.out];first | rfl | (congr 1;first | omega | (push_cast;rfl))⟩;clear G) | fail);exact bodyPost_ret (v:=tmV t) (by simp[results,Tryz.results79,go_sem,f0,f1,f2,f3,f4,f5,tmV,zbA]) rfl ⟨t,ht,rfl,by rw[HT.out];exact (((af.out.setOwn (b:=w1.heap.size) (by omega) O).setOwn (b:=w1.heap.size) (by omega) O).setOwn (b:=w1.heap.size) (by omega) O).turned U.out (Nat.le_refl _) O⟩
 have aO:¬ (c:Int) % 8=0:=by omega
 have aN:¬ (c:Int) % 8=1:=by omega
 have aG:¬ (c:Int) % 8=2:=by omega
 have aJ:¬ (c:Int) % 8=3:=by omega
 have aD:=hidR (show ((c:Int) / 8)=((c / 8:Nat):Int) by omega);go_wp2_with fail
 rw[aD.out];refine (zl9 (c / 8) _).mono ?_;rintro e w2 ⟨s,hs,rfl,aw,az⟩;have HT:Hid (zbV K l=(⟨2,0,s,zvF⟩,l.tail)):=show _=_ from by unfold zbV;rw[ab.out,if_neg (by omega),if_neg (by omega),if_neg (by omega),az.out]
 clear az;have ad:=hidR aw;have au:=aw.size;clear aw;go_wp2_with (first | (refine zac (by rfl) 95 (.tmp 4) (.tmp 50) (by rfl) w.heap.size (zbA ⟨2,0,s,(0,0,⟨#[]⟩)⟩) (by rfl) (by rfl) _ 95 ((ad.out.block _ aj).trans X.out) (by rfl) zfZ (zcr _) ?_;intro w3 G U;obtain ⟨t,ht,f0,f1,f2,f3,f4,f5⟩:=abs6 (Q:=fun t=>zfS K t/\Hid (t=(zbV K l).1)) G ⟨zrU K hs,show _=(zbV K l).1 by rw[HT.out];first | rfl | (congr 1;first | omega | (push_cast;rfl))⟩;clear G) | fail);exact bodyPost_ret (v:=tmV t) (by simp[results,Tryz.results79,go_sem,f0,f1,f2,f3,f4,f5,tmV,zbA]) rfl ⟨t,ht,rfl,by rw[HT.out];exact (hR.out.bel ad.out).turned U.out (Nat.le_refl _) O⟩
theorem zcg{P:Program}{ops:Array Oper}{rest:List Oper}{op:Oper}{a:Act}{w:World}{Q:Exit->Act->World->Prop}(E:op.guard=none)(G:TypeId)(x y:Operand)(ho:op.op=.store G x y)
  (b o:Nat) (L:List Value) (hx:a.eval x=.pointer (some ⟨b,o,none⟩)) (hy:a.eval y=.agg L.toArray) (c:Array Value) (t:TypeId) (hb:w.heap[b]?=some (.cells c t (0,0)))
  (hs:o+L.length<=c.size) (hi:(P.info? G).map (·.size)=some L.length) (h1:∀ v∈L,v.oneCell'=true) (N:Array Value) (I:(c.toList.take o ++ (L ++ c.toList.drop (o+L.length))).toArray=N)
  (h:∀ w',Hid (w'.heap[b]?=some (.cells N t (0,0)))->Hid (Turned w w' b)->wpList P ops Q rest (a.put op.dst undef) w'):wpList P ops Q (op :: rest) a w:=by
 refine wpList_store_mid E G x y ho b o L.toArray hx hy (ze7 hb (by simpa using hs)) (by simpa using hi) (all_oneCell_toArray h1) (h _ ?_ (Turned.setCells _ _ _ _));show _=_;rw[<- I];exact za0 hb (o:=o) L hs
theorem zmk(w:World):Calls Tryz.prog 104 #[] w fun e w'=>e=.returned (.slice (some ⟨w.heap.size,0,none⟩) 5 5)/\w'=w.alloc (.cells #[.string ⟨#[43]⟩,.string ⟨#[45]⟩,.string ⟨#[42]⟩,.string ⟨#[47]⟩,.string ⟨#[37]⟩] 9):=by
 go_enter Tryz.func104,Tryz.ntmps104;go_wp2;go_ret;exact ⟨rfl,rfl⟩
def zbC(e:Ex):List Value:=[.int .i64 e.kind,.int .u8 e.op,.string e.var,.int .i64 e.val.kind,.int .i64 e.val.num,.string e.val.sym,.int .i64 e.a,.int .i64 e.b]
def ExSm(e:Ex):Prop:=e.var.size<=20/\VSm e.val/\0<=e.op/\e.op<256
theorem zcb(e:Ex):∀ u∈zbC e,u.oneCell'=true:=by
 intro u E;simp[zbC]at E;rcases E with rfl | rfl | rfl | rfl | rfl | rfl | rfl | rfl <;> rfl
theorem zm0:(Tryz.prog.info? 97).map (·.size)=some 8:=by kernel_rfl
theorem zfH:(Tryz.prog.info? 97).map (fun i=>(i.zero,i.size,i.bytes))=some (some (.agg #[.int .i64 0,.int .u8 0,.string ⟨#[]⟩,.int .i64 0,.int .i64 0,.string ⟨#[]⟩,.int .i64 0,.int .i64 0]),8,80):=by kernel_rfl
theorem box8{w:World}{b:Nat}{E:TypeId}{e:Ex}(h:w.heap[b]?=some (.cells (zbC e).toArray E (0,0))):w.cell? ⟨b,0,none⟩=some (.int .i64 e.kind)/\w.cell? ⟨b,1,none⟩=some (.int .u8 e.op)/\w.cell? ⟨b,2,none⟩=some (.string e.var)/\w.cell? ⟨b,3,none⟩=some (.int .i64 e.val.kind)/\w.cell? ⟨b,4,none⟩=some (.int .i64 e.val.num)/\w.cell? ⟨b,5,none⟩=some (.string e.val.sym)/\w.cell? ⟨b,6,none⟩=some (.int .i64 e.a)/\w.cell? ⟨b,7,none⟩=some (.int .i64 e.b):=by
 refine ⟨?_,?_,?_,?_,?_,?_,?_,?_⟩ <;> simp[World.cell?,h,zbC]
def QB(w:World)(b base:Nat)(x0 x1 x2 x4:Value)(a:Option Addr)(c:Nat)(xs:List Ex):Prop:=
 w.heap[b]?=some (.cells #[x0,x1,x2,.slice a xs.length c,x4] 39 (0,0))/\w.ownsRow base 97 8 (.slice a xs.length c) xs.length (xs.flatMap zbC)/\∀ x∈xs,ExSm x
structure Qs (g b:Nat) (l:Bs) (o:Option Nat) (w w':World):Prop where
 rest:Below 0 w w'
 block:∀ k,k<w.heap.size->k≠g->k≠b->o≠some k->w'.heap[k]?=w.heap[k]?
 rdr:Rdr w' g l
theorem Qs.of{g b:Nat}{l:Bs}{o:Option Nat}{w w':World}(h:Rs g l w w'):Qs g b l o w w':=⟨h.1.rest,fun k hk hg _ _=>h.1.block k hk (fun e=>hg (by injection e with e;exact e.symm)),h.2⟩
def zc5(N:Nat)(o o':Option Nat):Prop:=o'=o∨∀ k,o'=some k->N<=k
theorem zc5.refl(N:Nat)(o:Option Nat):zc5 N o o:=.inl rfl
theorem zc5.trans{N I:Nat}{o o' E:Option Nat}(h:zc5 N o o')(G:zc5 I o' E)(O:N<=I):zc5 N o E:=by
 rcases G with rfl | G
 ·exact h
 exact .inr fun k hk=>Nat.le_trans O (G k hk)
theorem Qs.trans{g b:Nat}{l l':Bs}{o o':Option Nat}{u v w:World}(h:Qs g b l o u v)(k:Qs g b l' o' v w)(hn:zc5 u.heap.size o o'):Qs g b l' o u w:=by
 refine ⟨h.rest.trans k.rest,fun j hj hg hb ho=>?_,k.rdr⟩;refine (k.block j (Nat.lt_of_lt_of_le hj h.rest.size) hg hb ?_).trans (h.block j hj hg hb ho);rcases hn with rfl | hn
 ·exact ho
 exact fun e=>absurd (hn j e) (by omega)
theorem QB.rs{w w':World}{l:Bs}{g b base:Nat}{x0 x1 x2 x4:Value}{a:Option Addr}{c:Nat}{xs:List Ex}(h:QB w b base x0 x1 x2 x4 a c xs)(hr:Rs g l w w')(hb:b≠g)(hg:g<base):QB w' b base x0 x1 x2 x4 a c xs:=
 ⟨zbn hr h.1 hb,zar h.2.1 (fun k hk=>hr.1.block k (h.2.1.lt k hk).2 (fun e=>by injection e with e;have:=(h.2.1.lt k hk).1;omega)),h.2.2⟩
theorem QB.bel{w w':World}{b base:Nat}{x0 x1 x2 x4:Value}{a:Option Addr}{c:Nat}{xs:List Ex}(h:QB w b base x0 x1 x2 x4 a c xs)(hb:Below w.heap.size w w'):QB w' b base x0 x1 x2 x4 a c xs:=
 ⟨(hb.block b (zab h.1)).trans h.1,zar h.2.1 (fun k hk=>hb.block k (h.2.1.lt k hk).2),h.2.2⟩
theorem QB.turned{w w':World}{b base d:Nat}{x0 x1 x2 x4:Value}{a:Option Addr}{c:Nat}{xs:List Ex}(h:QB w b base x0 x1 x2 x4 a c xs)(ht:Turned w w' d)(hd:d≠b)(ho:(Value.slice a xs.length c).ownBlock≠some d):QB w' b base x0 x1 x2 x4 a c xs:=
 ⟨(ht.block b (Ne.symm hd)).trans h.1,zar h.2.1 (fun k hk=>ht.block k (fun e=>ho (by rw[hk,e]))),h.2.2⟩
def zgC(K:List ByteArray)(w:World)(g b base:Nat)(a:Option Addr)(n:Nat):Prop:=(n<=1048576/\n=K.length)/\∀ j,j<n->∃ (k o:Nat) (s:ByteArray),a=some ⟨k,o,none⟩/\g<k/\k≠b/\k<base/\(GK K s/\K[j]?=some s)/\w.cell? ⟨k,o+j,none⟩=some (.string s)
theorem zgC.keep{K:List ByteArray}{w w':World}{g b base:Nat}{a:Option Addr}{n:Nat}(h:zgC K w g b base a n)(hk:∀ k,k<base->k<w.heap.size->g<k->k≠b->w'.heap[k]?=w.heap[k]?):zgC K w' g b base a n:=by
 refine ⟨h.1,fun j hj=>?_⟩;obtain ⟨k,o,s,h1,h2,h3,E,I,G⟩:=h.2 j hj;refine ⟨k,o,s,h1,h2,h3,E,I,?_⟩;rw[<- G];exact World.cell?_of_block (w:=w) (hk k E (World.block_lt_of_cell? w ⟨k,_,none⟩ G) h2 h3)
theorem zgC.qs{K:List ByteArray}{w w':World}{g b base:Nat}{l:Bs}{o:Option Nat}{a:Option Addr}{n:Nat}(h:zgC K w g b base a n)(E:Qs g b l o w w')(ho:∀ k,o=some k->base<=k):zgC K w' g b base a n:=
 h.keep (fun k hk hl hg hb=>E.block k hl (by omega) hb (fun e=>by have:=ho k e;omega))
def fD:Nat->Nat
 | 0=>1
 | d+1=>2 * fD d+1
def QPost(K:List ByteArray)(l:Bs)(g b base:Nat)(x0 x1 x2 x4:Value)(a:Option Addr)(c:Nat)(xs:List Ex)(d:Nat)(w:World)(e:Ending)(w':World):Prop:=
 ∃ a' c' xs',QB w' b base x0 x1 x2 x4 a' c' xs'/\xs.length+1<=xs'.length/\xs'.length<=xs.length+fD d/\e=.returned (.int .i64 ((xs'.length:Int) - 1))/\Qs g b (zaP d K xs l).2 (Value.slice a xs.length c).ownBlock w w'/\zc5 w.heap.size (Value.slice a xs.length c).ownBlock (Value.slice a' xs'.length c').ownBlock/\(∃ ys,xs'=xs ++ ys/\Tree K d xs.length ys)/\(52<=xs.length->xs'.length<=xs.length+1)/\Hid (xs'=(zaP d K xs l).1)
theorem zlO{l:Bs}{g b base:Nat}{x0 x1 x2 x4:Value}{a1:Option Addr}{X:Nat}{G:List Ex}{u O wa w3:World}{o:Option Nat}{E:Ex}{a3:Option Addr}{c3:Nat}(hq:QB O b base x0 x1 x2 x4 a1 X G)(hE:ExSm E)(hQ:Qs g b l o u O)(Z:zc5 u.heap.size o (Value.slice a1 G.length X).ownBlock)
  (I:Below O.heap.size O wa) (ho:w3.ownsRow base 97 8 (.slice a3 (G.length+1) c3) (G.length+1) (G.flatMap zbC ++ zbC E)) (hg:wa.grownBy w3 (Value.slice a1 G.length X).ownBlock)
  (hl:(Value.slice a3 (G.length+1) c3).ownBlock=(Value.slice a1 G.length X).ownBlock∨(Value.slice a3 (G.length+1) c3).ownBlock=some wa.heap.size) (ag:g<b) (af:b<base) (_hbase:base<=O.heap.size) :
  QB (w3.setCell ⟨b,3,none⟩ (.slice a3 (G.length+1) c3)) b base x0 x1 x2 x4 a3 c3 (G ++ [E])/\Qs g b l o u (w3.setCell ⟨b,3,none⟩ (.slice a3 (G.length+1) c3))/\zc5 u.heap.size o (Value.slice a3 (G.length+1) c3).ownBlock:=by
 have ab:∀ k,(Value.slice a1 G.length X).ownBlock=some k->base<=k/\k<O.heap.size:=fun k hk=>hq.2.1.lt k hk;have U:b<O.heap.size:=zab hq.1;have e3:w3.heap[b]?=some (.cells #[x0,x1,x2,.slice a1 G.length X,x4] 39 (0,0)):=by
  refine (hg.block b (Nat.lt_of_lt_of_le U I.size) (fun e=>?_)).trans ((I.block b U).trans hq.1);have:=(ab b e.symm).1;omega
 have ae:∀ k,(Value.slice a3 (G.length+1) c3).ownBlock=some k->base<=k:=fun k hk=>(ho.lt k hk).1;refine ⟨⟨?_,?_,?_⟩,⟨?_,?_,?_⟩,?_⟩
 ·have:=zap (i:=3) e3 (.slice a3 (G.length+1) c3);simpa using this
 ·have:=zar (w':=w3.setCell ⟨b,3,none⟩ (.slice a3 (G.length+1) c3)) ho (fun k hk=>Below.heap_setCell _ _ _ _ (by have:=ae k hk;simp;omega));simpa using this
 ·intro x hx;rcases List.mem_append.1 hx with h | h
  ·exact hq.2.2 x h
  simp at h;exact h ▸ hE
 ·refine Below.setCell ?_ (Nat.zero_le _) _;exact (hQ.rest.trans (I.mono (Nat.zero_le _))).grown hg (Nat.zero_le _) (fun _ _=>Nat.zero_le _)
 ·intro k hk h1 h2 h3;have ad:k<O.heap.size:=Nat.lt_of_lt_of_le hk hQ.rest.size;refine (Below.heap_setCell _ _ _ _ (by simpa using h2)).trans ?_;refine (hg.block k (Nat.lt_of_lt_of_le ad I.size) (fun e=>?_)).trans ((I.block k ad).trans (hQ.block k hk h1 h2 h3));rcases Z with Z | Z
  ·exact h3 (by rw[<- Z,e])
  have:=Z k e.symm;omega
 ·refine Rdr.old hQ.rdr ?_;refine Below.setCell ?_ (by simp;omega) _;exact (I.mono (by omega)).grown hg (by have:=I.size;omega) (fun k hk=>by have:=(ab k hk).1;omega)
 rcases hl with h | h
 ·rw[h];exact Z
 refine .inr fun k hk=>?_;rw[h]at hk;injection hk with hk;have:=hQ.rest.size;have:=I.size;omega
theorem absE{w:World}{b:Nat}{t:TypeId}{op p q:Int}(h:Hid (w.heap[b]?=some (.cells (zbC ⟨2,op,⟨#[]⟩,(0,0,⟨#[]⟩),p,q⟩).toArray t (0,0))))(hE:isAr op=true)(G:0<=op)(h1:op<256):∃ E,ExSm E/\((∃ op,isAr op=true/\E=opE op p q)/\Hid (E=⟨2,op,wS [],zvF,p,q⟩))/\Hid (w.heap[b]?=some (.cells (zbC E).toArray t (0,0))):=⟨opE op p q,⟨Nat.zero_le 20,ze9,G,h1⟩,⟨⟨op,hE,rfl⟩,show _=_ from rfl⟩,h⟩
theorem zqt{K:List ByteArray}{d:Nat}{xs G I:List Ex}{E:Ex}(h2:∃ ys,G=xs ++ ys/\Tree K d xs.length ys)(O:∃ ys,I=G ++ ys/\Tree K d G.length ys)(hE:∃ op,isAr op=true/\E=opE op ((G.length:Int) - 1) ((I.length:Int) - 1)):∃ ys,I ++ [E]=xs ++ ys/\Tree K (d+1) xs.length ys:=by
 obtain ⟨A,rfl,U⟩:=h2;obtain ⟨B,rfl,hB⟩:=O;obtain ⟨op,ho,rfl⟩:=hE;refine ⟨A ++ (B ++ [opE op (((xs ++ A).length:Int) - 1) (((xs ++ A ++ B).length:Int) - 1)]),by simp,.inr ⟨A,B,op,ho,U,by simpa using hB,?_⟩⟩;simp[Nat.add_assoc]
theorem Qs.bel{g b:Nat}{l:Bs}{o:Option Nat}{u v w:World}(h:Qs g b l o u v)(hb:Below v.heap.size v w):Qs g b l o u w:=
 ⟨h.rest.trans (hb.mono (Nat.zero_le _)),fun k hk h1 h2 h3=>(hb.block k (Nat.lt_of_lt_of_le hk h.rest.size)).trans (h.block k hk h1 h2 h3),h.rdr.bel hb⟩
theorem Qs.turned{g b d:Nat}{l:Bs}{o:Option Nat}{u v w:World}(h:Qs g b l o u v)(ht:Turned v w d)(hd:u.heap.size<=d)(hg:g<u.heap.size):Qs g b l o u w:=
 ⟨h.rest.trans (ht.below (Nat.zero_le _)),fun k hk h1 h2 h3=>(ht.block k (by omega)).trans (h.block k hk h1 h2 h3),h.rdr.old (ht.below (by omega))⟩
theorem zc5.mono{N E:Nat}{o o':Option Nat}(h:zc5 E o o')(G:N<=E):zc5 N o o':=by
 rcases h with h | h
 ·exact .inl h
 exact .inr fun k hk=>Nat.le_trans G (h k hk)
theorem zfF{b base:Nat}{x0 x1 x2 x4:Value}{X:Option Addr}{O:Nat}{E:List Ex}{U wa w3:World}(Z:QB U b base x0 x1 x2 x4 X O E)(I:Below U.heap.size U wa)(hg:wa.grownBy w3 (Value.slice X E.length O).ownBlock)(ab:b<base) :
  w3.cell? ⟨b,3,none⟩=some (.slice X E.length O)/\w3.frozen? ⟨b,3,none⟩=false:=by
 have G:b<U.heap.size:=zab Z.1;have e3:w3.heap[b]?=some (.cells #[x0,x1,x2,.slice X E.length O,x4] 39 (0,0)):=by
  refine (hg.block b (Nat.lt_of_lt_of_le G I.size) (fun e=>?_)).trans ((I.block b G).trans Z.1);have:=(Z.2.1.lt b e.symm).1;omega
 exact ⟨by simp[World.cell?,e3],by simp[World.frozen?,e3]⟩
theorem QB.grown{w w':World}{b base:Nat}{x0 x1 x2 x4:Value}{a:Option Addr}{c:Nat}{xs:List Ex}{row:Option Nat}{t:TypeId}(h:QB w b base x0 x1 x2 x4 a c xs)(hg:w.grownBy w' row)(ht:∀ k,row=some k->∃ c,w.heap[k]?=some (.cells c t (0,0)))(h1:t≠39)(h2:t≠97):QB w' b base x0 x1 x2 x4 a c xs:=by
 refine ⟨(hg.block b (zab h.1) (fun e=>?_)).trans h.1,zar h.2.1 (fun k hk=>hg.block k (h.2.1.lt k hk).2 (fun e=>?_)),h.2.2⟩
 ·obtain ⟨c',G⟩:=ht b e.symm;exact zcM G h.1 h1
 obtain ⟨c',G⟩:=ht k e.symm;obtain ⟨I,E⟩:=zaA h.2.1 hk;exact zcM G E h2
theorem Qs.grown{g b:Nat}{l:Bs}{o row:Option Nat}{u v w:World}(h:Qs g b l o u v)(hg:v.grownBy w row)(hr:∀ k,row=some k->u.heap.size<=k)(E:g<u.heap.size):Qs g b l o u w:=by
 refine ⟨h.rest.grown hg (Nat.zero_le _) (fun _ _=>Nat.zero_le _),fun k hk h1 h2 h3=>(hg.block k (Nat.lt_of_lt_of_le hk h.rest.size) (fun e=>?_)).trans (h.block k hk h1 h2 h3),h.rdr.old ((Below.refl _ _).grown hg (by have:=h.rest.size;omega) (fun k hk=>by have:=hr k hk;omega))⟩;have:=hr k e.symm;omega
theorem zno{w w':World}{l:Bs}{base g b:Nat}{o:Option Nat}{e t:TypeId}{m:Nat}{v:Value}{n:Nat}{xs:List Value}(h:w.ownsRow base e m v n xs)(I:Qs g b l o w w')(hg:g<base)(hb:b<base)(ht:∀ k,o=some k->∃ c,w.heap[k]?=some (.cells c t (0,0)))(G:t≠e):w'.ownsRow base e m v n xs:=by
 refine zar h fun k hk=>I.block k (h.lt k hk).2 (by have:=(h.lt k hk).1;omega) (by have:=(h.lt k hk).1;omega) (fun e=>?_);obtain ⟨c,O⟩:=ht k e;obtain ⟨c',E⟩:=zaA h hk;exact zcM O E G
theorem zhN{d u:Nat}{K:List ByteArray}{xs:List Ex}{l:Bs}(E:nxc l=u)(h:(1<=u % 5/\u % 5<=2)∨(u % 5=0/\¬ 0<K.length)):zaP d K xs l=(xs ++ [⟨0,0,wS [],valF (nxc l.tail),0,0⟩],l.tail.tail):=by
 cases d with
 | zero=>unfold zaP;rw[E,if_neg (by omega)]
 | succ d=>unfold zaP;rw[E,if_neg (by omega),if_neg (by omega)]
theorem zkK{u:Nat}{K:List ByteArray}{xs:List Ex}{l:Bs}(E:nxc l=u)(h:¬ u % 5=0):zaP 0 K xs l=(xs ++ [⟨0,0,wS [],valF (nxc l.tail),0,0⟩],l.tail.tail):=by
 unfold zaP;rw[E,if_neg (by omega)]
theorem zkq{d u:Nat}{K:List ByteArray}{xs:List Ex}{l:Bs}(E:nxc l=u)(h:¬ u % 5=0)(hl:¬ xs.length<52):zaP d K xs l=(xs ++ [⟨0,0,wS [],valF (nxc l.tail),0,0⟩],l.tail.tail):=by
 cases d with
 | zero=>unfold zaP;rw[E,if_neg (by omega)]
 | succ d=>unfold zaP;rw[E,if_neg (by omega),if_neg (by omega)]
theorem zo0{d u:Nat}{K:List ByteArray}{xs:List Ex}{l:Bs}{s:ByteArray}(E:nxc l=u)(h:u % 5=0)(hk:0<K.length)(hs:K.getD (u / 5 % K.length) (wS [])=s):zaP d K xs l=(xs ++ [⟨1,0,s,zvF,0,0⟩],l.tail):=by
 cases d with
 | zero=>unfold zaP;rw[E,if_pos ⟨h,hk⟩,hs]
 | succ d=>unfold zaP;rw[E,if_neg (by omega),if_pos ⟨h,hk⟩,hs]
theorem zq3{d u:Nat}{K:List ByteArray}{xs x2 x4:List Ex}{l:Bs}{op:Int}(G:nxc l=u)(h:2<u % 5)(hl:xs.length<52)(h2:x2=(zaP d K xs l.tail).1)(E:x4=(zaP d K x2 (zaP d K xs l.tail).2).1)(ho:arF (u / 5 % 5)=op) :
  zaP (d+1) K xs l=(x4 ++ [⟨2,op,wS [],zvF,(x2.length:Int) - 1,(x4.length:Int) - 1⟩],(zaP d K x2 (zaP d K xs l.tail).2).2):=by
 subst E;subst h2;simp only[zaP];rw[G,if_pos ⟨h,hl⟩,ho]
theorem zjh(K:List ByteArray)(l:Bs)(g b base:Nat)(x0 x1 x2 x4:Value)(ka:Option Addr)(kn kc:Nat)(aF:g<b)(ao:b<base)(d:Nat)(a:Option Addr)(c:Nat)(xs:List Ex)(w:World)(hd:d<=8)(h:Rdr w g l)(hq:QB w b base x0 x1 x2 x4 a c xs)(hk:zgC K w g b base ka kn)(hbase:base<=w.heap.size)(bK:xs.length+fD d<=100000)
  (IH:∀ d',d=d'+1->∀ (l:Bs) (a:Option Addr) (c:Nat) (xs:List Ex) (w:World),Rdr w g l->QB w b base x0 x1 x2 x4 a c xs->zgC K w g b base ka kn->base<=w.heap.size->xs.length+fD d'<=100000->Calls Tryz.prog 129 #[.pointer (some ⟨g,0,none⟩),.pointer (some ⟨b,0,none⟩),.slice ka kn kc,.int .i64 (d':Int)] w (QPost K l g b base x0 x1 x2 x4 a c xs d' w)) :
  Calls Tryz.prog 129 #[.pointer (some ⟨g,0,none⟩),.pointer (some ⟨b,0,none⟩),.slice ka kn kc,.int .i64 (d:Int)] w (QPost K l g b base x0 x1 x2 x4 a c xs d w):=by
 have bW:1<=fD d:=by cases d <;> simp[fD]
 have aX:=hidR IH;have H:=hidR h;have aA:=h.lt;clear h IH;go_enter Tryz.func129,Tryz.ntmps129;go_wp2_with fail
 refine (zbQ g l _ H.out).mono ?_;rintro e w1 ⟨u,hu,rfl,hr,aC⟩;have aV:=hidR hk.1.2;have af:=hidR hr;have Z:=hidR (hq.rs hr (by omega) (by omega));have aI:=hidR (hk.keep (w':=w1) (fun k _ hl hg _=>hr.1.block k hl (fun e=>by injection e with e;omega)));have bS:=hr.1.rest.size;have ag:=hidR (fun k (e:(Value.slice a xs.length c).ownBlock=some k)=>(Z.out.2.1.lt k e).2);have bP:b<w1.heap.size:=zab Z.out.1;have c3:w1.cell? ⟨b,3,none⟩=some (.slice a xs.length c):=by simp[World.cell?,Z.out.1]
 have HA:=zHA w1;have ah:=hidR (fun o=>af.out.2.bel (HA.out o));have bF:xs.length+1<=100000:=by omega
 clear hr hq hk H;by_cases h5:u % 5=0
 ·by_cases bs:kn=0
  focus
   subst bs;go_wp2_with fail
   refine (zc9 g l.tail _ (ah.out _)).mono ?_;rintro e w2 ⟨v,⟨hv,ak⟩,rfl,U⟩;have HX:Hid (zaP d K xs l=(xs ++ [⟨0,0,wS [],v,0,0⟩],l.tail.tail)):=show _=_ from by rw[ak.out];exact zhN aC.out (.inr ⟨by omega,by rw[<- aV.out];omega⟩)
   clear ak;have al:=hidR ((af.out.bel (HA.out _)).trans U);have aj:=hidR (zbn U (heap_alloc_new _ _) (by omega));have ae:=hidR ((Z.out.bel (HA.out _)).rs U (by omega) (by omega));clear U;unfold vV;go_wp2_with (first | (refine zcg (by rfl) 93 (.tmp 18) (.tmp 17) (by rfl) w1.heap.size 3 (V.cells v) (by rfl) (by rfl) _ 97 aj.out (by simp[V.cells]) zgN (V.cells_one _) (zbC ⟨0,0,⟨#[]⟩,v,0,0⟩).toArray (by rfl) ?_;intro I hE ht) | fail);obtain ⟨E,G⟩:∃ E:Ex,E=⟨0,0,⟨#[]⟩,v,0,0⟩:=⟨_,rfl⟩
   have ax:Hid ((zaP d K xs l).1=xs ++ [E]):=show _=_ from by rw[HX.out,G];rfl
   have aq:ExSm E:=by rw[G];exact ⟨Nat.zero_le 20,hv,Int.le_refl 0,(by decide:(0:Int)<256)⟩
   have aw:Leaf K E:=by rw[G];exact .inl ⟨v,hv.2.2.2.2,rfl⟩
   rw[<- G]at hE;have X:=hidR (ae.out.turned ht.out (by omega) (fun e=>by have:=ag.out _ e;omega));have ab:=hidR (Qs.of (b:=b) (o:=(Value.slice a xs.length c).ownBlock) (al.out.turned ht.out (by omega) aA));have hN:=hidR (zc5.refl w.heap.size (Value.slice a xs.length c).ownBlock);have aG:base<=I.heap.size:=by have:=ab.out.rest.size;omega
   clear ae Z af ah al aj ag HA ht G hv c3
  rotate_left
  focus
   have bJ:(0:Int)<(kn:Int):=by omega
   obtain ⟨k,hk⟩:∃ k,k=u / 5 % kn:=⟨_,rfl⟩
   have bG:k<kn:=by rw[hk];exact Nat.mod_lt _ (by omega)
   have bD:(u:Int) / 5 % (kn:Int)=(k:Int):=by rw[hk];first | (norm_cast;done) | (simp;done) | (push_cast;rfl)
   have bY:(k:Int)<(kn:Int):=by omega
   have bI:(0:Int)<=(k:Int):=by omega
   obtain ⟨kb,ko,sw,rfl,bU,bN,bp,aW,bA⟩:=aI.out.2 k bG;have HX:Hid (zaP d K xs l=(xs ++ [⟨1,0,sw,zvF,0,0⟩],l.tail)):=show _=_ from zo0 aC.out h5 (by rw[<- aV.out];omega) (by rw[<- aV.out,<- hk];simp[List.getD,aW.2]);have bL:kb<w1.heap.size:=by omega
   clear hk;go_wp2_with (first | (refine zac (by rfl) 97 (.tmp 10) (.tmp 74) (by rfl) w1.heap.size (zbC ⟨1,0,sw,(0,0,⟨#[]⟩),0,0⟩) (by rfl) (by rfl) _ 97 (heap_alloc_new _ _) (by rfl) zm0 (zcb _) ?_;intro I hE ht) | fail);obtain ⟨E,G⟩:∃ E:Ex,E=⟨1,0,sw,(0,0,⟨#[]⟩),0,0⟩:=⟨_,rfl⟩
   have ax:Hid ((zaP d K xs l).1=xs ++ [E]):=show _=_ from by rw[HX.out,G];rfl
   have aq:ExSm E:=by rw[G];exact ⟨aW.1.1,ze9,Int.le_refl 0,(by decide:(0:Int)<256)⟩
   have aw:Leaf K E:=by rw[G];exact .inr ⟨sw,aW.1.2.2,rfl⟩
   rw[<- G]at hE;have X:=hidR ((Z.out.bel (HA.out _)).turned ht.out (by omega) (fun e=>by have:=ag.out _ e;omega));have ab:=hidR (Qs.of (b:=b) (o:=(Value.slice a xs.length c).ownBlock) ((af.out.bel (HA.out _)).turned ht.out (by omega) aA));have hN:=hidR (zc5.refl w.heap.size (Value.slice a xs.length c).ownBlock);have aG:base<=I.heap.size:=by have:=ab.out.rest.size;omega
   clear Z af ah ag HA ht G c3 bD bA aI
  rotate_left
  all_goals
   have aJ:b<I.heap.size:=zab X.out.1;have aH:I.cell? ⟨b,3,none⟩=some (.slice a xs.length c):=by simp[World.cell?,X.out.1]
   obtain ⟨t0,t1,t2,t3,t4,t5,t6,t7⟩:=box8 hE.out;have au:=hidR (fun W (h:Below I.heap.size I W)=>zar X.out.2.1 (fun k hk=>h.block k (X.out.2.1.lt k hk).2));have O:=hidR (fun o=>(Below.refl I.heap.size I).drew.alloc (Nat.le_refl _) o:∀ o,Below I.heap.size I (I.drew.alloc o));go_wp2_with fail
   go_region_law (refine zaq (by rfl) (.tmp 79) (.tmp 81) 36 (by rfl) base 97 _ 8 80 Tryz.underlying36 zfH (by rfl) (by omega) _ xs.length _ (by rfl) (au.out _ ?_) (some ⟨_,0,none⟩) 1 1 (by rfl) (zbC E) (by rfl) (fun e=>by cases e) (zas _ _ _ _ (by simp)) (zcb E) (by unfold maxLen;omega) (by omega) (by first | (simp;omega) | omega) ?_;exact O.out _;intro a3 c3 w3 ar ad ap;obtain ⟨k3,z3⟩:=zfF X.out (O.out _) ad.out ao)
   all_goals
    go_wp2_with fail
    go_ret;obtain ⟨r1,r2,r3⟩:=zlO X.out aq ab.out hN.out (O.out _) ar.out ad.out ap.out aF ao (by omega);exact ⟨a3,c3,xs ++ [E],r1,by first | (simp;done) | (simp;omega),by first | (simp;done) | (simp;omega),zcc (by simp),by rw[HX.out];exact r2,by simpa using r3,⟨[E],rfl,Tree.leaf aw⟩,fun _=>by simp,show _=_ from ax.out.symm⟩
 have bQ:¬ (u:Int) % 5=0:=by omega
 by_cases bX:u % 5<=2
 ·have a7:¬ (2:Int)<(u:Int) % 5:=by omega
  go_wp2_with fail
  refine (zc9 g l.tail _ (ah.out _)).mono ?_;rintro e w2 ⟨v,⟨hv,ak⟩,rfl,U⟩;have HX:Hid (zaP d K xs l=(xs ++ [⟨0,0,wS [],v,0,0⟩],l.tail.tail)):=show _=_ from by rw[ak.out];exact zhN aC.out (.inl (by omega))
  clear ak;have al:=hidR ((af.out.bel (HA.out _)).trans U);have aj:=hidR (zbn U (heap_alloc_new _ _) (by omega));have ae:=hidR ((Z.out.bel (HA.out _)).rs U (by omega) (by omega));clear U;unfold vV;go_wp2_with (first | (refine zcg (by rfl) 93 (.tmp 18) (.tmp 17) (by rfl) w1.heap.size 3 (V.cells v) (by rfl) (by rfl) _ 97 aj.out (by simp[V.cells]) zgN (V.cells_one _) (zbC ⟨0,0,⟨#[]⟩,v,0,0⟩).toArray (by rfl) ?_;intro I hE ht) | fail);obtain ⟨E,G⟩:∃ E:Ex,E=⟨0,0,⟨#[]⟩,v,0,0⟩:=⟨_,rfl⟩
  have ax:Hid ((zaP d K xs l).1=xs ++ [E]):=show _=_ from by rw[HX.out,G];rfl
  have aq:ExSm E:=by rw[G];exact ⟨Nat.zero_le 20,hv,Int.le_refl 0,(by decide:(0:Int)<256)⟩
  have aw:Leaf K E:=by rw[G];exact .inl ⟨v,hv.2.2.2.2,rfl⟩
  rw[<- G]at hE;have X:=hidR (ae.out.turned ht.out (by omega) (fun e=>by have:=ag.out _ e;omega));have ab:=hidR (Qs.of (b:=b) (o:=(Value.slice a xs.length c).ownBlock) (al.out.turned ht.out (by omega) aA));have hN:=hidR (zc5.refl w.heap.size (Value.slice a xs.length c).ownBlock);have aG:base<=I.heap.size:=by have:=ab.out.rest.size;omega
  clear ae Z af ah al aj ag HA ht G hv c3;have aJ:b<I.heap.size:=zab X.out.1;have aH:I.cell? ⟨b,3,none⟩=some (.slice a xs.length c):=by simp[World.cell?,X.out.1]
  obtain ⟨t0,t1,t2,t3,t4,t5,t6,t7⟩:=box8 hE.out;have au:=hidR (fun W (h:Below I.heap.size I W)=>zar X.out.2.1 (fun k hk=>h.block k (X.out.2.1.lt k hk).2));have O:=hidR (fun o=>(Below.refl I.heap.size I).drew.alloc (Nat.le_refl _) o:∀ o,Below I.heap.size I (I.drew.alloc o));go_wp2_with fail
  go_region_law (refine zaq (by rfl) (.tmp 79) (.tmp 81) 36 (by rfl) base 97 _ 8 80 Tryz.underlying36 zfH (by rfl) (by omega) _ xs.length _ (by rfl) (au.out _ ?_) (some ⟨_,0,none⟩) 1 1 (by rfl) (zbC E) (by rfl) (fun e=>by cases e) (zas _ _ _ _ (by simp)) (zcb E) (by unfold maxLen;omega) (by omega) (by first | (simp;omega) | omega) ?_;exact O.out _;intro a3 c3 w3 ar ad ap;obtain ⟨k3,z3⟩:=zfF X.out (O.out _) ad.out ao)
  all_goals
   go_wp2_with fail
   go_ret;obtain ⟨r1,r2,r3⟩:=zlO X.out aq ab.out hN.out (O.out _) ar.out ad.out ap.out aF ao (by omega);exact ⟨a3,c3,xs ++ [E],r1,by first | (simp;done) | (simp;omega),by first | (simp;done) | (simp;omega),zcc (by simp),by rw[HX.out];exact r2,by simpa using r3,⟨[E],rfl,Tree.leaf aw⟩,fun _=>by simp,show _=_ from ax.out.symm⟩
 have a7:(2:Int)<(u:Int) % 5:=by omega
 by_cases bC:d=0
 ·subst bC;go_wp2_with fail
  refine (zc9 g l.tail _ (ah.out _)).mono ?_;rintro e w2 ⟨v,⟨hv,ak⟩,rfl,U⟩;have HX:Hid (zaP 0 K xs l=(xs ++ [⟨0,0,wS [],v,0,0⟩],l.tail.tail)):=show _=_ from by rw[ak.out];exact zkK aC.out (by omega)
  clear ak;have al:=hidR ((af.out.bel (HA.out _)).trans U);have aj:=hidR (zbn U (heap_alloc_new _ _) (by omega));have ae:=hidR ((Z.out.bel (HA.out _)).rs U (by omega) (by omega));clear U;unfold vV;go_wp2_with (first | (refine zcg (by rfl) 93 (.tmp 18) (.tmp 17) (by rfl) w1.heap.size 3 (V.cells v) (by rfl) (by rfl) _ 97 aj.out (by simp[V.cells]) zgN (V.cells_one _) (zbC ⟨0,0,⟨#[]⟩,v,0,0⟩).toArray (by rfl) ?_;intro I hE ht) | fail);obtain ⟨E,G⟩:∃ E:Ex,E=⟨0,0,⟨#[]⟩,v,0,0⟩:=⟨_,rfl⟩
  have ax:Hid ((zaP 0 K xs l).1=xs ++ [E]):=show _=_ from by rw[HX.out,G];rfl
  have aq:ExSm E:=by rw[G];exact ⟨Nat.zero_le 20,hv,Int.le_refl 0,(by decide:(0:Int)<256)⟩
  have aw:Leaf K E:=by rw[G];exact .inl ⟨v,hv.2.2.2.2,rfl⟩
  rw[<- G]at hE;have X:=hidR (ae.out.turned ht.out (by omega) (fun e=>by have:=ag.out _ e;omega));have ab:=hidR (Qs.of (b:=b) (o:=(Value.slice a xs.length c).ownBlock) (al.out.turned ht.out (by omega) aA));have hN:=hidR (zc5.refl w.heap.size (Value.slice a xs.length c).ownBlock);have aG:base<=I.heap.size:=by have:=ab.out.rest.size;omega
  clear ae Z af ah al aj ag HA ht G hv c3;have aJ:b<I.heap.size:=zab X.out.1;have aH:I.cell? ⟨b,3,none⟩=some (.slice a xs.length c):=by simp[World.cell?,X.out.1]
  obtain ⟨t0,t1,t2,t3,t4,t5,t6,t7⟩:=box8 hE.out;have au:=hidR (fun W (h:Below I.heap.size I W)=>zar X.out.2.1 (fun k hk=>h.block k (X.out.2.1.lt k hk).2));have O:=hidR (fun o=>(Below.refl I.heap.size I).drew.alloc (Nat.le_refl _) o:∀ o,Below I.heap.size I (I.drew.alloc o));go_wp2_with fail
  go_region_law (refine zaq (by rfl) (.tmp 79) (.tmp 81) 36 (by rfl) base 97 _ 8 80 Tryz.underlying36 zfH (by rfl) (by omega) _ xs.length _ (by rfl) (au.out _ ?_) (some ⟨_,0,none⟩) 1 1 (by rfl) (zbC E) (by rfl) (fun e=>by cases e) (zas _ _ _ _ (by simp)) (zcb E) (by unfold maxLen;omega) (by omega) (by first | (simp;omega) | omega) ?_;exact O.out _;intro a3 c3 w3 ar ad ap;obtain ⟨k3,z3⟩:=zfF X.out (O.out _) ad.out ao)
  all_goals
   go_wp2_with fail
   go_ret;obtain ⟨r1,r2,r3⟩:=zlO X.out aq ab.out hN.out (O.out _) ar.out ad.out ap.out aF ao (by omega);exact ⟨a3,c3,xs ++ [E],r1,by first | (simp;done) | (simp;omega),by first | (simp;done) | (simp;omega),zcc (by simp),by rw[HX.out];exact r2,by simpa using r3,⟨[E],rfl,Tree.leaf aw⟩,fun _=>by simp,show _=_ from ax.out.symm⟩
 have bH:(0:Int)<(d:Int):=by omega
 by_cases ba:xs.length<52
 ·have aT:(xs.length:Int)<52:=by omega
  obtain ⟨d',rfl⟩:∃ d',d=d'+1:=⟨d - 1,by omega⟩
  have bV:fD (d'+1)=2 * fD d'+1:=rfl;have bl:((d'+1:Nat):Int) - 1=(d':Int):=by omega
  have bb:∀ o,base<=(w1.alloc o).heap.size:=fun o=>by simp;omega
  have a6:=hidR (fun o=>aI.out.keep (w':=w1.alloc o) (fun k _ hl _ _=>(HA.out o).block k hl));go_wp2_with fail
  try rw[bl]
  refine (aX.out d' rfl l.tail a c xs _ (ah.out _) (Z.out.bel (HA.out _)) (a6.out _) (bb _) (by omega)).mono ?_;rintro e w2 ⟨a2,c2,aQ,bo,bT,bO,rfl,aB,aR,br,_,bt⟩;have ae:=hidR bo;have bj:base<=w2.heap.size:=by have:=aB.rest.size;have:=bb (.cells #[] 0);simp at *;omega
  have az:(Value.slice a xs.length c).ownBlock≠some w1.heap.size:=fun e=>by have:=ag.out _ e;omega
  have a1:=hidR ((aB.block w1.heap.size (by simp) (by omega) (by omega) az).trans (heap_alloc_new _ _));have bi:=hidR ((a6.out _).qs aB (fun k hk=>(Z.out.2.1.lt k hk).1));have bw:w1.heap.size<w2.heap.size:=zab a1.out;have bZ:b<w2.heap.size:=by omega
  have aP:=hidR ((Qs.of (b:=b) (o:=(Value.slice a xs.length c).ownBlock) (af.out.bel (HA.out _))).trans aB (zc5.refl _ _));have aU:=hidR (aR.mono (N:=w.heap.size) (by simp;omega));have aD:=hidR (aR.mono (N:=w1.heap.size+1) (by simp));have bf:=hidR aB.rdr;clear aB aR bo Z aI a6 ah af c3 HA;go_wp2_with fail
  try rw[bl]
  refine (aX.out d' rfl (zaP d' K xs l.tail).2 a2 c2 aQ w2 bf.out ae.out bi.out bj (by omega)).mono ?_;rintro e w4 ⟨a4,c4,aE,bm,ap,bR,rfl,aY,aS,bu,_,bz⟩;have bk:=hidR (fun op (ho:arF (u / 5 % 5)=op)=>zq3 aC.out (by omega) ba bt.out bz.out ho);have bc:=hidR bm;have aL:(Value.slice a2 aQ.length c2).ownBlock≠some w1.heap.size:=fun e=>by
   rcases aD.out with h | h
   ·exact az (by rw[<- h,e])
   have:=h _ e;omega
  have aZ:=hidR ((aY.block w1.heap.size bw (by omega) (by omega) aL).trans a1.out);have bB:w1.heap.size<w4.heap.size:=zab aZ.out;have aN:=hidR (aP.out.trans aY aU.out);have bd:=hidR (aU.out.trans aS (by omega));have aO:=hidR (aD.out.trans aS (by omega));have aK:=zHA w4;have bM:b<w4.heap.size:=by omega
  have aM:(Value.slice a4 aE.length c4).ownBlock≠some w1.heap.size:=fun e=>by
   rcases aO.out with h | h
   ·exact az (by rw[<- h,e])
   have:=h _ e;omega
  clear aY aS bm ae bi bf aP a1 aX;have ay:u / 5 % 5=0∨u / 5 % 5=1∨u / 5 % 5=2∨u / 5 % 5=3∨u / 5 % 5=4:=by omega
  go_wp2_with fail
  refine (zmk _).mono ?_;rintro e w5 ⟨rfl,rfl⟩;rcases ay with ay | ay | ay | ay | ay
  all_goals
   have a8:=hidR (bk.out _ (by rw[ay]));clear bk;go_wp2_with (first | (refine zac (by rfl) 97 (.tmp 10) (.tmp 56) (by rfl) w1.heap.size (zbC ⟨2,_,⟨#[]⟩,(0,0,⟨#[]⟩),(aQ.length:Int) - 1,(aE.length:Int) - 1⟩) (by rfl) (by rfl) _ 97 (((aK.out _).block _ bB).trans aZ.out) (by rfl) zm0 (zcb _) ?_;intro I bh ht;obtain ⟨E,aq,bn,hE⟩:=absE bh (by first | rfl | decide) (by first | decide | (dsimp only;decide) | (simp;done)) (by first | decide | (dsimp only;decide) | (simp;done));clear bh) | fail);have X:=hidR ((bc.out.bel (aK.out _)).turned ht.out (by omega) aM);have ab:=hidR ((aN.out.bel (aK.out _)).turned ht.out (by omega) aA);have hN:=hidR bd.out;have aG:base<=I.heap.size:=by have:=ab.out.rest.size;omega
   clear bc aN bd aO aU aD aZ aK ht ag az aL aM;have aJ:b<I.heap.size:=zab X.out.1;have aH:I.cell? ⟨b,3,none⟩=some (.slice a4 aE.length c4):=by simp[World.cell?,X.out.1]
   obtain ⟨t0,t1,t2,t3,t4,t5,t6,t7⟩:=box8 hE.out;have au:=hidR (fun W (h:Below I.heap.size I W)=>zar X.out.2.1 (fun k hk=>h.block k (X.out.2.1.lt k hk).2));have O:=hidR (fun o=>(Below.refl I.heap.size I).drew.alloc (Nat.le_refl _) o:∀ o,Below I.heap.size I (I.drew.alloc o));go_wp2_with fail
   go_region_law (refine zaq (by rfl) (.tmp 79) (.tmp 81) 36 (by rfl) base 97 _ 8 80 Tryz.underlying36 zfH (by rfl) (by omega) _ aE.length _ (by rfl) (au.out _ ?_) (some ⟨_,0,none⟩) 1 1 (by rfl) (zbC E) (by rfl) (fun e=>by cases e) (zas _ _ _ _ (by simp)) (zcb E) (by unfold maxLen;omega) (by omega) (by first | (simp;omega) | omega) ?_;exact O.out _;intro a3 c3 w3 ar ad ap;obtain ⟨k3,z3⟩:=zfF X.out (O.out _) ad.out ao)
   all_goals
    go_wp2_with fail
    go_ret;obtain ⟨r1,r2,r3⟩:=zlO X.out aq ab.out hN.out (O.out _) ar.out ad.out ap.out aF ao (by omega);exact ⟨a3,c3,aE ++ [E],r1,by first | (simp;done) | (simp;omega),by first | (simp;done) | (simp;omega),zcc (by simp),by rw[a8.out];exact r2,by simpa using r3,zqt br bu bn.1,fun _=>by omega,show _=_ from by rw[a8.out,bn.2.out];first | done | rfl⟩
 have aT:¬ (xs.length:Int)<52:=by omega
 go_wp2_with fail
 refine (zc9 g l.tail _ (ah.out _)).mono ?_;rintro e w2 ⟨v,⟨hv,ak⟩,rfl,U⟩;have HX:Hid (zaP d K xs l=(xs ++ [⟨0,0,wS [],v,0,0⟩],l.tail.tail)):=show _=_ from by rw[ak.out];exact zkq aC.out (by omega) (by omega)
 clear ak;have al:=hidR ((af.out.bel (HA.out _)).trans U);have aj:=hidR (zbn U (heap_alloc_new _ _) (by omega));have ae:=hidR ((Z.out.bel (HA.out _)).rs U (by omega) (by omega));clear U;unfold vV;go_wp2_with (first | (refine zcg (by rfl) 93 (.tmp 18) (.tmp 17) (by rfl) w1.heap.size 3 (V.cells v) (by rfl) (by rfl) _ 97 aj.out (by simp[V.cells]) zgN (V.cells_one _) (zbC ⟨0,0,⟨#[]⟩,v,0,0⟩).toArray (by rfl) ?_;intro I hE ht) | fail);obtain ⟨E,G⟩:∃ E:Ex,E=⟨0,0,⟨#[]⟩,v,0,0⟩:=⟨_,rfl⟩
 have ax:Hid ((zaP d K xs l).1=xs ++ [E]):=show _=_ from by rw[HX.out,G];rfl
 have aq:ExSm E:=by rw[G];exact ⟨Nat.zero_le 20,hv,Int.le_refl 0,(by decide:(0:Int)<256)⟩
 have aw:Leaf K E:=by rw[G];exact .inl ⟨v,hv.2.2.2.2,rfl⟩
 rw[<- G]at hE;have X:=hidR (ae.out.turned ht.out (by omega) (fun e=>by have:=ag.out _ e;omega));have ab:=hidR (Qs.of (b:=b) (o:=(Value.slice a xs.length c).ownBlock) (al.out.turned ht.out (by omega) aA));have hN:=hidR (zc5.refl w.heap.size (Value.slice a xs.length c).ownBlock);have aG:base<=I.heap.size:=by have:=ab.out.rest.size;omega
 clear ae Z af ah al aj ag HA ht G hv c3;have aJ:b<I.heap.size:=zab X.out.1;have aH:I.cell? ⟨b,3,none⟩=some (.slice a xs.length c):=by simp[World.cell?,X.out.1]
 obtain ⟨t0,t1,t2,t3,t4,t5,t6,t7⟩:=box8 hE.out;have au:=hidR (fun W (h:Below I.heap.size I W)=>zar X.out.2.1 (fun k hk=>h.block k (X.out.2.1.lt k hk).2));have O:=hidR (fun o=>(Below.refl I.heap.size I).drew.alloc (Nat.le_refl _) o:∀ o,Below I.heap.size I (I.drew.alloc o));go_wp2_with fail
 go_region_law (refine zaq (by rfl) (.tmp 79) (.tmp 81) 36 (by rfl) base 97 _ 8 80 Tryz.underlying36 zfH (by rfl) (by omega) _ xs.length _ (by rfl) (au.out _ ?_) (some ⟨_,0,none⟩) 1 1 (by rfl) (zbC E) (by rfl) (fun e=>by cases e) (zas _ _ _ _ (by simp)) (zcb E) (by unfold maxLen;omega) (by omega) (by first | (simp;omega) | omega) ?_;exact O.out _;intro a3 c3 w3 ar ad ap;obtain ⟨k3,z3⟩:=zfF X.out (O.out _) ad.out ao)
 all_goals
  go_wp2_with fail
  go_ret;obtain ⟨r1,r2,r3⟩:=zlO X.out aq ab.out hN.out (O.out _) ar.out ad.out ap.out aF ao (by omega);exact ⟨a3,c3,xs ++ [E],r1,by first | (simp;done) | (simp;omega),by first | (simp;done) | (simp;omega),zcc (by simp),by rw[HX.out];exact r2,by simpa using r3,⟨[E],rfl,Tree.leaf aw⟩,fun _=>by simp,show _=_ from ax.out.symm⟩
theorem zhw(K:List ByteArray)(g b base:Nat)(x0 x1 x2 x4:Value)(U:Option Addr)(O X:Nat)(I:g<b)(G:b<base):∀ (d:Nat),d<=8->∀ (l:Bs) (a:Option Addr) (c:Nat) (xs:List Ex) (w:World),Rdr w g l->QB w b base x0 x1 x2 x4 a c xs->zgC K w g b base U O->base<=w.heap.size->xs.length+fD d<=100000 ->
  Calls Tryz.prog 129 #[.pointer (some ⟨g,0,none⟩),.pointer (some ⟨b,0,none⟩),.slice U O X,.int .i64 (d:Int)] w (QPost K l g b base x0 x1 x2 x4 a c xs d w):=by
 intro d
 induction d with
 | zero=>exact fun hd l a c xs w h Z hk hbase E=>zjh K l g b base x0 x1 x2 x4 U O X I G 0 a c xs w hd h Z hk hbase E (fun d' e=>by omega)
 | succ d ih=>exact fun hd l a c xs w h Z hk hbase E=>zjh K l g b base x0 x1 x2 x4 U O X I G (d+1) a c xs w hd h Z hk hbase E (fun d' e=>by obtain rfl:d=d':=(by omega);exact ih (by omega))
theorem zni(c:Int)(w:World)(b:Nat)(h:w.cell? ⟨b,0,none⟩=some (.int .u8 c)):(convert 22 9 (.slice (some ⟨b,0,none⟩) 1 1)).run Tryz.prog w=.ok (.string (strOfNums [c])) w:=
 run_convert_bytes_arg (P:=Tryz.prog) _ 22 5 Tryz.underlying22 Tryz.underlying5 b 0 1 1 [c] rfl (fun i hi=>by
  obtain rfl:i=0:=by omega
  simpa using h) 9 Tryz.underlying9
def digB(k:Nat):ByteArray:=⟨#[UInt8.ofNat (48+k)]⟩
theorem zrp(k:Nat)(hk:k<10):strOfNums [48+((k:Int) % 10)] ++ (⟨#[]⟩:ByteArray)=digB k:=by
 have:∀ k:Fin 10,strOfNums [48+(((k.val:Nat):Int) % 10)] ++ (⟨#[]⟩:ByteArray)=digB k.val:=by decide
 exact this ⟨k,hk⟩
theorem zov(k:Nat)(w:World)(hk:k<10):Calls Tryz.prog 61 #[.int .i64 (k:Int)] w fun e w'=>e=.returned (.string (digB k))/\Below w.heap.size w w':=by
 have O:¬ (k:Int)<0:=by omega
 have U:=hidR zni;go_enter Tryz.func61,Tryz.ntmps61;go_wp2
 go_loopw [0,4,5] (fun I G E wr=>(I=.int .i64 (k:Int)/\G=.string ⟨#[]⟩/\E=.bool true/\wr=w)∨(I=.int .i64 0/\G=.string (digB k)/\E=.bool false/\Below w.heap.size w wr)) (fun _ _ E _=>match E with | .bool true=>1 | _=>0)
 case atStart=>exact .inl ⟨rfl,rfl,rfl,rfl⟩
 case round=>
  rcases hrel with ⟨rfl,rfl,rfl,rfl⟩ | ⟨rfl,rfl,rfl,hb⟩
  ·have X:=U.out;go_wp2;refine ⟨.inr ⟨by rw[show (k:Int) / 10=0 by omega],?_,rfl,(Below.refl _ _).alloc (Nat.le_refl _) _⟩,by simp⟩;exact congrArg Value.string (zrp k hk)
  go_wp2;go_ret;exact ⟨rfl,hb⟩
theorem zpw:(Tryz.prog.info? 3).map (fun i=>(i.zero,i.size,i.bytes))=some (some (.int .i64 0),1,8):=by kernel_rfl
def argN:List Int:=[1,2,1,2,3,0]
theorem zqn(k:Nat)(hk:k<6):∃ n:Nat,n<=3/\argN[k]?=some (n:Int)/\∀ u,k=u % 6->argC u=n:=by
 have:k=0∨k=1∨k=2∨k=3∨k=4∨k=5:=by omega
 rcases this with rfl | rfl | rfl | rfl | rfl | rfl
 ·exact ⟨1,by omega,rfl,fun u h=>by unfold argC;rw[<- h];rfl⟩
 ·exact ⟨2,by omega,rfl,fun u h=>by unfold argC;rw[<- h];rfl⟩
 ·exact ⟨1,by omega,rfl,fun u h=>by unfold argC;rw[<- h];rfl⟩
 ·exact ⟨2,by omega,rfl,fun u h=>by unfold argC;rw[<- h];rfl⟩
 ·exact ⟨3,by omega,rfl,fun u h=>by unfold argC;rw[<- h];rfl⟩
 exact ⟨0,by omega,rfl,fun u h=>by unfold argC;rw[<- h];rfl⟩
def ArgR(K:List ByteArray)(n0:Nat)(xs:List Ex)(l:Bs)(j:Nat)(zs:List Int)(xs':List Ex)(lr:Bs):Prop:=zeN n0 K xs l=(zs ++ (zeN j K xs' lr).1,(zeN j K xs' lr).2)
theorem ArgR.step{K:List ByteArray}{n0:Nat}{xs:List Ex}{l:Bs}{j:Nat}{zs:List Int}{xs' E:List Ex}{lr:Bs}(h:ArgR K n0 xs l (j+1) zs xs' lr)(h2:E=(zaP 2 K xs' lr).1):ArgR K n0 xs l j (zs ++ [(E.length:Int) - 1]) E (zaP 2 K xs' lr).2:=by
 unfold ArgR at h ⊢;rw[h];subst h2;simp[zeN]
theorem zeJ(K:List ByteArray)(l:Bs)(m:Nat)(g b base:Nat)(x0 x1 x2 x4:Value)(ka:Option Addr)(kn kc:Nat)(aV:g<b)(aL:b<base)(a:Option Addr)(c:Nat)(xs:List Ex)(w:World)(h:Rdr w g l)(hq:QB w b base x0 x1 x2 x4 a c xs)(hk:zgC K w g b base ka kn)(hbase:base<=w.heap.size)(aW:xs.length<=7 * m)(aI:xs.length<=50+m)(hm:m<=100) :
  Calls Tryz.prog 80 #[.pointer (some ⟨g,0,none⟩),.pointer (some ⟨b,0,none⟩),.slice ka kn kc] w fun e w'=>∃ ao co zs a' c' xs' ys,e=.returned (.slice ao zs.length co)/\w'.ownsRow w.heap.size 3 1 (.slice ao zs.length co) zs.length ((zs:List Int).map (Value.int .i64))/\QB w' b base x0 x1 x2 x4 a' c' xs'/\(xs'=xs ++ ys/\Trees K xs.length ys zs/\zs.length<=3/\xs'.length<=7 * (m+zs.length)/\xs'.length<=50+(m+zs.length))/\Qs g b (zcm K xs l).2.2 (Value.slice a xs.length c).ownBlock w w'/\zc5 w.heap.size (Value.slice a xs.length c).ownBlock (Value.slice a' xs'.length c').ownBlock/\Hid (zs=(zcm K xs l).1/\xs'=(zcm K xs l).2.1):=by
 have H:=hidR h;have HQ:=hidR hq;have HK:=hidR hk;have aK:=h.lt;have ba:b<w.heap.size:=zab hq.1;clear h hq hk;have HA:=zHA w;have HR:=hidR (fun o=>H.out.bel (HA.out o));go_enter Tryz.func80,Tryz.ntmps80;go_wp2_with fail
 refine (zbQ g l _ (HR.out _)).mono ?_;rintro e w1 ⟨u,hu,rfl,hr,aD⟩;have HT:=hidR (zbn hr (heap_alloc_new _ _) (by omega));have aZ:w.heap.size<w1.heap.size:=zab HT.out;obtain ⟨k,aB⟩:∃ k,k=u % 6:=⟨_,rfl⟩
 have aU:k<6:=by omega
 have aS:(u:Int) % 6=(k:Int):=by omega
 have bb:(k:Int)<6:=by omega
 have aX:(0:Int)<=(k:Int):=by omega
 obtain ⟨n0,a8,aj,az⟩:=zqn k aU;have aN:Hid (zcm K xs l=zeN n0 K xs l.tail):=show _=_ from by unfold zcm;rw[aD.out,az u aB]
 clear aD az;have af:w1.cell? ⟨w.heap.size,k,none⟩=some (.int .i64 (n0:Int)):=by
  have hb:=HT.out;have:k=0∨k=1∨k=2∨k=3∨k=4∨k=5:=by omega
  rcases this with rfl | rfl | rfl | rfl | rfl | rfl <;> simp[argN]at aj <;> simp[World.cell?,hb,<- aj]
 have aw:=hidR ((HQ.out.bel (HA.out _)).rs hr (by omega) (by omega));have X:=hidR (Qs.of (b:=b) (o:=(Value.slice a xs.length c).ownBlock) ((Rs.of H.out (HA.out _)).trans hr));clear hr aB aj HT HA HR H;go_wp2_with fail
 clear af aS
 go_loopw [7,8] (fun ov nv wr=>∃ (j:Nat) (ao:Option Addr) (co:Nat) (zs:List Int) (a':Option Addr) (c':Nat) (xs' ys:List Ex) (lr:Bs),nv=.int .i64 (j:Int)/\ov=.slice ao zs.length co/\zs.length+j=n0/\wr.ownsRow w.heap.size 3 1 (.slice ao zs.length co) zs.length (zs.map (Value.int .i64))/\QB wr b base x0 x1 x2 x4 a' c' xs'/\(xs'=xs ++ ys/\Trees K xs.length ys zs/\xs'.length<=7 * (m+zs.length)/\xs'.length<=50+(m+zs.length))/\Qs g b lr (Value.slice a xs.length c).ownBlock w wr/\zc5 w.heap.size (Value.slice a xs.length c).ownBlock (Value.slice a' xs'.length c').ownBlock/\ArgR K n0 xs l.tail j zs xs' lr) (fun _ nv _=>(intOf nv).toNat)
 case atStart=>exact ⟨n0,none,0,[],a,c,xs,[],l.tail,rfl,rfl,by simp,World.ownsRow_nil _ _ _ _,aw.out,⟨by simp,rfl,by simpa using aW,by simpa using aI⟩,X.out,zc5.refl _ _,by unfold ArgR;simp⟩
 case round=>
  obtain ⟨j,ao,co,zs,a',c',xs',ys,lr,rfl,rfl,hj,hown,hQ,⟨E,O,aR,aT⟩,G,hN,ax⟩:=hrel;have aA:=hidR ax;clear ax;have ad:=hidR (And.intro E O);clear E O;by_cases aO:j=0
  ·subst aO;go_wp2_with fail
   go_ret;have Z:zcm K xs l=(zs,xs',lr):=by rw[aN.out,show zeN n0 K xs l.tail=_ from aA.out];simp[zeN]
   exact ⟨ao,co,zs,a',c',xs',ys,rfl,hown,hQ,⟨ad.out.1,ad.out.2,by omega,aR,aT⟩,by rw[Z];exact G,hN,show _/\_ from by rw[Z];exact ⟨rfl,rfl⟩⟩
  have a1:(0:Int)<(j:Int):=by omega
  have hsz:=G.rest.size;have ay:fD 2=7:=rfl;have HC:=hidR (zhw K g b base x0 x1 x2 x4 ka kn kc aV aL 2 (by omega) lr a' c' xs' wr G.rdr hQ (HK.out.qs G (fun k hk=>(HQ.out.2.1.lt k hk).1)) (by omega) (by rw[ay];omega));have HO:=hidR hown;have au:=hidR hQ;have ab:=hidR G;have ag:=hidR hN;clear hown hQ G hN aw X;go_wp2_with fail
  refine HC.out.mono ?_;rintro e w2 ⟨a2,c2,I,aF,a6,aJ,rfl,U,al,ak,bc,aC⟩;rw[ay]at aJ;have aQ:=hidR ak;clear ak;have aM:=hidR aF;have ah:=hidR (zno (t:=97) HO.out U (by omega) (by omega) (fun k hk=>zaA au.out.2.1 hk) (by decide));have aq:=hidR (ab.out.trans U ag.out);have aH:=hidR (ag.out.trans al (by omega));have aY:=U.rest.size;have ae:=zHA w2;have aG:=hidR (fun o=>zar ah.out (fun k hk=>(ae.out o).block k (ah.out.lt k hk).2));clear aF U al HC HO au ab ag;go_wp2_with (first | (at_builtin;refine zag (by rfl) (.tmp 19) (.tmp 24) 71 (by rfl) w.heap.size 3 _ 1 8 Tryz.underlying71 zpw (by rfl) (by omega) _ zs.length _ (by rfl) (aG.out _) (some ⟨_,0,none⟩) 1 1 (by rfl) [.int .i64 ((I.length:Int) - 1)] (by rfl) (fun e=>by cases e) (zas _ _ _ _ (by simp)) (by intro u hu;simp at hu;subst hu;rfl) (by unfold maxLen;omega) (by omega) (by simp;omega) ?_;intro a3 c3 w3 aP ar a7) | fail);go_roundw
  case rel=>
   obtain ⟨TY,aE,ap⟩:=aQ.out;obtain ⟨E,O⟩:=ad.out;refine ⟨j - 1,a3,c3,zs ++ [(I.length:Int) - 1],a2,c2,I,ys ++ TY,(zaP 2 K xs' lr).2,?_,by simp,by simp;omega,by simpa using aP.out,(aM.out.bel (ae.out _)).grown (t:=3) ar.out (fun k hk=>zaA (aG.out _) hk) (by decide) (by decide),⟨by rw[aE,E,List.append_assoc],?_,by simp;omega,by simp;omega⟩,(aq.out.bel (ae.out _)).grown ar.out (fun k hk=>(ah.out.lt k hk).1) aK,aH.out,ArgR.step (by rw[show j - 1+1=j by omega];exact aA.out) aC.out⟩
   ·rw[show ((j - 1:Nat):Int)=(j:Int) - 1 by omega]
   ·have:=Trees.snoc O (B:=TY) (by rw[E]at ap;simpa using ap);have e:I.length=xs.length+ys.length+TY.length:=by rw[aE,E];simp[Nat.add_assoc]
    rw[e];exact this
  case measure=>(simp[intOf];omega)
end Go.Proofs.YtjjjagepnnbebaaGreatDoor
namespace Go.Proofs.YtjjjagepnnbebaaGreatDoor
open Go.RowKit
theorem zkY{l:Bs}{w w':World}{base g:Nat}{e:TypeId}{m:Nat}{v:Value}{n:Nat}{xs:List Value}(h:w.ownsRow base e m v n xs)(hr:Rs g l w w')(hg:g<base):w'.ownsRow base e m v n xs:=
 zar h fun k hk=>hr.1.block k (h.lt k hk).2 (fun e=>by injection e with e;have:=(h.lt k hk).1;omega)
theorem Rs.grown{l:Bs}{g:Nat}{row:Option Nat}{u v w:World}(h:Rs g l u v)(hg:v.grownBy w row)(hr:∀ k,row=some k->u.heap.size<=k)(G:g<u.heap.size):Rs g l u w:=
 ⟨⟨h.1.rest.grown hg (Nat.zero_le _) (fun _ _=>Nat.zero_le _),fun k hk E=>(hg.block k (Nat.lt_of_lt_of_le hk h.1.rest.size) (fun e=>by have:=hr k e.symm;omega)).trans (h.1.block k hk E)⟩,h.2.old ((Below.refl _ _).grown hg (by have:=h.1.rest.size;omega) (fun k hk=>by have:=hr k hk;omega))⟩
abbrev PtV:=Pt × Value
def pcells(x:PtV):List Value:=[.bool x.1.neg,.string x.1.cls,x.2]
theorem zlQ(x:PtV)(h:x.2.oneCell'=true):∀ u∈pcells x,u.oneCell'=true:=by
 intro u E;simp[pcells]at E;rcases E with rfl | rfl | rfl
 ·rfl
 ·rfl
 exact h
def PtX(w:World)(base:Nat)(x:PtV):Prop:=(∃ a c,x.2=.slice a x.1.terms.length c)/\w.ownsRow base 95 6 x.2 x.1.terms.length (x.1.terms.flatMap zbA)/\GCl x.1.cls/\x.1.terms.length<=3/\∀ t∈x.1.terms,TmSm t
def PO(w:World)(base:Nat)(a:Option Addr)(c:Nat)(L:List PtV):Prop:=w.ownsRow base 78 3 (.slice a L.length c) L.length (L.flatMap pcells)/\∀ x∈L,PtX w base x
theorem PO.nil(w:World)(base:Nat):PO w base none 0 []:=⟨World.ownsRow_nil _ _ _ _,fun x hx=>by simp at hx⟩
theorem PtX.rs{l:Bs}{w w':World}{base g:Nat}{x:PtV}(h:PtX w base x)(hr:Rs g l w w')(hg:g<base):PtX w' base x:=⟨h.1,zkY h.2.1 hr hg,h.2.2⟩
theorem PO.rs{l:Bs}{w w':World}{base g:Nat}{a:Option Addr}{c:Nat}{L:List PtV}(h:PO w base a c L)(hr:Rs g l w w')(hg:g<base):PO w' base a c L:=⟨zkY h.1 hr hg,fun x hx=>(h.2 x hx).rs hr hg⟩
theorem PtX.bel{w w':World}{base:Nat}{x:PtV}(h:PtX w base x)(hb:Below w.heap.size w w'):PtX w' base x:=⟨h.1,zao h.2.1 hb,h.2.2⟩
theorem PO.bel{w w':World}{base:Nat}{a:Option Addr}{c:Nat}{L:List PtV}(h:PO w base a c L)(hb:Below w.heap.size w w'):PO w' base a c L:=⟨zao h.1 hb,fun x hx=>(h.2 x hx).bel hb⟩
theorem PtX.grown{w w':World}{base:Nat}{t:TypeId}{x:PtV}{row:Option Nat}(h:PtX w base x)(hg:w.grownBy w' row)(ht:∀ k,row=some k->∃ c,w.heap[k]?=some (.cells c t (0,0)))(E:t≠95):PtX w' base x:=⟨h.1,zbF h.2.1 hg ht E,h.2.2⟩
theorem PtX.set{w:World}{base b o:Nat}{t:TypeId}{x:PtV}{v:Value}{c:Array Value}{G:Nat × Nat}(h:PtX w base x)(hb:w.heap[b]?=some (.cells c t G))(E:t≠95):PtX (w.setCell ⟨b,o,none⟩ v) base x:=⟨h.1,zdO h.2.1 hb E,h.2.2⟩
theorem PO.set{w:World}{base b o:Nat}{t:TypeId}{a:Option Addr}{c':Nat}{L:List PtV}{v:Value}{c:Array Value}{I:Nat × Nat}(h:PO w base a c' L)(hb:w.heap[b]?=some (.cells c t I))(G:t≠95)(E:t≠78):PO (w.setCell ⟨b,o,none⟩ v) base a c' L:=⟨zdO h.1 hb E,fun x hx=>(h.2 x hx).set hb G⟩
theorem PO.snoc{w w':World}{base:Nat}{a a':Option Addr}{c c':Nat}{L:List PtV}{x:PtV}(h:PO w base a c L)(hx:PtX w base x)(ho:w'.ownsRow base 78 3 (.slice a' (L.length+1) c') (L.length+1) (L.flatMap pcells ++ pcells x))(hg:w.grownBy w' (Value.slice a L.length c).ownBlock):PO w' base a' c' (L ++ [x]):=by
 refine ⟨by simpa using ho,fun y hy=>?_⟩;have E:PtX w base y:=by
  rcases List.mem_append.1 hy with hy | hy
  ·exact h.2 y hy
  simp at hy;exact hy ▸ hx
 exact E.grown (t:=78) hg (fun k hk=>zaA h.1 hk) (by decide)
def SO(K:List ByteArray)(w:World)(base:Nat)(a:Option Addr)(n c:Nat):Prop:=n<=1000/\∃ ks:List ByteArray,(ks=K/\ks.length=n)/\(∀ s∈ks,GNm s)/\w.ownsRow base 9 1 (.slice a n c) n (ks.map Value.string)
theorem SO.rs{l:Bs}{K:List ByteArray}{w w':World}{base g:Nat}{a:Option Addr}{n c:Nat}(h:SO K w base a n c)(hr:Rs g l w w')(hg:g<base):SO K w' base a n c:=by
 obtain ⟨E,ks,h1,h2,h3⟩:=h;exact ⟨E,ks,h1,h2,zkY h3 hr hg⟩
theorem SO.on{K:List ByteArray}{w:World}{base g:Nat}{a:Option Addr}{n c:Nat}(h:SO K w base a n c)(hg:g<base):zgl K w g a n:=by
 obtain ⟨I,ks,h1,h2,h3⟩:=h;refine ⟨⟨by omega,by rw[<- h1.1];exact h1.2.symm⟩,fun j hj=>?_⟩;have E:j<ks.length:=by have:=h1.2;omega
 obtain ⟨k,rfl,hb,G,_⟩:=zbE h3 (j:=j) (x:=.string ks[j]) (by simp[E]);exact ⟨k,0,ks[j],rfl,by omega,⟨⟨(h2 _ (List.getElem_mem E)).1,(h2 _ (List.getElem_mem E)).2,by rw[<- h1.1];exact List.getElem_mem E⟩,by rw[<- h1.1];simp[E]⟩,by rw[Nat.zero_add];exact G⟩
theorem SO.q{K:List ByteArray}{w:World}{base g b B:Nat}{t:TypeId}{a:Option Addr}{n c:Nat}{cb:Array Value}{U:Nat × Nat}(h:SO K w base a n c)(hg:g<base)(hb:w.heap[b]?=some (.cells cb t U))(I:t≠9)(hB:w.heap.size<=B):zgC K w g b B a n:=by
 obtain ⟨Z,ks,h1,h2,h3⟩:=h;refine ⟨⟨by omega,by rw[<- h1.1];exact h1.2.symm⟩,fun j hj=>?_⟩;have E:j<ks.length:=by have:=h1.2;omega
 obtain ⟨k,rfl,O,X,_⟩:=zbE h3 (j:=j) (x:=.string ks[j]) (by simp[E]);obtain ⟨c',G⟩:=zaA h3 (k:=k) rfl;refine ⟨k,0,ks[j],rfl,by omega,fun e=>?_,?_,⟨⟨(h2 _ (List.getElem_mem E)).1,(h2 _ (List.getElem_mem E)).2,by rw[<- h1.1];exact List.getElem_mem E⟩,by rw[<- h1.1];simp[E]⟩,by rw[Nat.zero_add];exact X⟩
 ·subst e;exact zcM hb G I
 have:=zab G;omega
def Same(T:List TypeId)(base:Nat)(w w':World):Prop:=∀ k t c,base<=k->w.heap[k]?=some (.cells c t (0,0))->t∈T->w'.heap[k]?=w.heap[k]?
theorem zcY{T:List TypeId}{base:Nat}{w w':World}{e:TypeId}{m:Nat}{v:Value}{n:Nat}{xs:List Value}(h:w.ownsRow base e m v n xs)(hs:Same T base w w')(he:e∈T):w'.ownsRow base e m v n xs:=by
 refine zar h fun k hk=>?_;obtain ⟨c,E⟩:=zaA h hk;exact hs k e c (h.lt k hk).1 E he
theorem Same.bel{T:List TypeId}{base:Nat}{w w':World}(hb:Below w.heap.size w w'):Same T base w w':=fun k _ _ _ hk _=>hb.block k (zab hk)
theorem Same.rs{l:Bs}{T:List TypeId}{base g:Nat}{w w':World}(hr:Rs g l w w')(hg:g<base):Same T base w w':=fun k _ _ hb hk _=>hr.1.block k (zab hk) (fun e=>by injection e with e;omega)
theorem Same.grown{T:List TypeId}{base:Nat}{t:TypeId}{w w':World}{row:Option Nat}(hg:w.grownBy w' row)(ht:∀ k,row=some k->∃ c,w.heap[k]?=some (.cells c t (0,0)))(I:t ∉ T):Same T base w w':=fun k O c _ hk E=>hg.block k (zab hk) (fun e=>by
 obtain ⟨c',G⟩:=ht k e.symm;exact zcM hk G (fun e=>I (e ▸ E)))
theorem Same.kept{T:List TypeId}{base d:Nat}{t:TypeId}{w w':World}{c:Array Value}{I:Nat × Nat}(hk:∀ k,k≠d->k<w.heap.size->w'.heap[k]?=w.heap[k]?)(hd:w.heap[d]?=some (.cells c t I))(G:t ∉ T):Same T base w w':=fun k O c' _ h E=>hk k (fun e=>by
 subst e;exact zcM h hd (fun e=>G (e ▸ E))) (zab h)
theorem Same.trans{T:List TypeId}{base:Nat}{u v w:World}(h:Same T base u v)(E:Same T base v w):Same T base u w:=fun k t c hb hk ht=>(E k t c hb ((h k t c hb hk ht).trans hk) ht).trans (h k t c hb hk ht)
theorem Same.less{T E:List TypeId}{base:Nat}{u v:World}(h:Same T base u v)(G:∀ t∈E,t∈T):Same E base u v:=fun k t c hb hk ht=>h k t c hb hk (G t ht)
abbrev AcV:=Ac × Value
def acells(x:AcV):List Value:=[.int .i64 x.1.kind,.int .i64 x.1.k,.string x.1.cls,x.2]
def AcP(w:World)(base:Nat)(x:AcV):Prop:=(∃ a c,x.2=.slice a x.1.args.length c)/\w.ownsRow base 3 1 x.2 x.1.args.length (icells x.1.args)
def AcO(w:World)(base:Nat)(a:Option Addr)(c:Nat)(Y:List AcV):Prop:=w.ownsRow base 73 4 (.slice a Y.length c) Y.length (Y.flatMap acells)/\∀ x∈Y,AcP w base x
theorem AcO.nil(w:World)(base:Nat):AcO w base none 0 []:=⟨World.ownsRow_nil _ _ _ _,fun x hx=>by simp at hx⟩
theorem AcO.same{T:List TypeId}{base:Nat}{w w':World}{a:Option Addr}{c:Nat}{Y:List AcV}(h:AcO w base a c Y)(hs:Same T base w w')(h1:73∈T)(h2:3∈T):AcO w' base a c Y:=⟨zcY h.1 hs h1,fun x hx=>⟨(h.2 x hx).1,zcY (h.2 x hx).2 hs h2⟩⟩
theorem AcO.bel{base:Nat}{w w':World}{a:Option Addr}{c:Nat}{Y:List AcV}(h:AcO w base a c Y)(hb:Below w.heap.size w w'):AcO w' base a c Y:=h.same (T:=[73,3]) (Same.bel hb) (by decide) (by decide)
theorem AcO.rs{l:Bs}{base g:Nat}{w w':World}{a:Option Addr}{c:Nat}{Y:List AcV}(h:AcO w base a c Y)(hr:Rs g l w w')(hg:g<base):AcO w' base a c Y:=h.same (T:=[73,3]) (Same.rs hr hg) (by decide) (by decide)
theorem AcO.turned{base d:Nat}{w w':World}{a:Option Addr}{c:Nat}{Y:List AcV}{E:Array Value}{G:Nat × Nat}(h:AcO w base a c Y)(ht:Turned w w' d)(hd:∀ k,(Value.slice a Y.length c).ownBlock=some k->k≠d)(hb:w.heap[d]?=some (.cells E 73 G)):AcO w' base a c Y:=
 ⟨zar h.1 (fun k hk=>ht.block k (hd k hk)),fun x hx=>⟨(h.2 x hx).1,zcY (h.2 x hx).2 (T:=[3]) (Same.kept (fun k hk _=>ht.block k hk) hb (by decide)) (by decide)⟩⟩
theorem AcO.qs{l:Bs}{base g b:Nat}{o:Option Nat}{w w':World}{a:Option Addr}{c:Nat}{Y:List AcV}(h:AcO w base a c Y)(E:Qs g b l o w w')(hg:g<base)(hb:b<base)(ht:∀ k,o=some k->∃ c,w.heap[k]?=some (.cells c 97 (0,0))):AcO w' base a c Y:=
 ⟨zno h.1 E hg hb ht (by decide),fun x hx=>⟨(h.2 x hx).1,zno (h.2 x hx).2 E hg hb ht (by decide)⟩⟩
structure RuX where
 nm:ByteArray
 sal:Int
 pv:Value
 ev:Value
 av:Value
 pats:List PtV
 es:List Ex
 acts:List AcV
def RuX.ru(x:RuX):Ru:=⟨x.nm,x.sal,x.pats.map Prod.fst,x.es,x.acts.map Prod.fst⟩
def rcells(x:RuX):List Value:=[.string x.nm,.int .i64 x.sal,x.pv,x.ev,x.av]
def rTys:List TypeId:=[78,95,97,73,3]
def RuP(w:World)(base:Nat)(x:RuX):Prop:=(∃ a c,x.pv=.slice a x.pats.length c/\PO w base a c x.pats)/\(∃ a c,x.ev=.slice a x.es.length c/\w.ownsRow base 97 8 (.slice a x.es.length c) x.es.length (x.es.flatMap zbC)/\∀ e∈x.es,ExSm e)/\∃ a c,x.av=.slice a x.acts.length c/\AcO w base a c x.acts
theorem PO.same{T:List TypeId}{base:Nat}{w w':World}{a:Option Addr}{c:Nat}{L:List PtV}(h:PO w base a c L)(hs:Same T base w w')(h1:78∈T)(h2:95∈T):PO w' base a c L:=⟨zcY h.1 hs h1,fun x hx=>⟨(h.2 x hx).1,zcY (h.2 x hx).2.1 hs h2,(h.2 x hx).2.2⟩⟩
theorem RuP.same{base:Nat}{w w':World}{x:RuX}(h:RuP w base x)(hs:Same rTys base w w'):RuP w' base x:=by
 obtain ⟨⟨a,c,e,h1⟩,⟨a2,c2,e2,h2,h3⟩,a4,c4,G,E⟩:=h;exact ⟨⟨a,c,e,h1.same hs (by decide) (by decide)⟩,⟨a2,c2,e2,zcY h2 hs (by decide),h3⟩,a4,c4,G,E.same hs (by decide) (by decide)⟩
theorem RuP.lower{base base':Nat}{w:World}{x:RuX}(h:RuP w base x)(hb:base'<=base):RuP w base' x:=by
 obtain ⟨⟨a,c,e,h1⟩,⟨a2,c2,e2,h2,h3⟩,a4,c4,G,E⟩:=h;exact ⟨⟨a,c,e,zaO h1.1 hb,fun y hy=>⟨(h1.2 y hy).1,zaO (h1.2 y hy).2.1 hb,(h1.2 y hy).2.2⟩⟩,⟨a2,c2,e2,zaO h2 hb,h3⟩,a4,c4,G,zaO E.1 hb,fun y hy=>⟨(E.2 y hy).1,zaO (E.2 y hy).2 hb⟩⟩
def RO(w:World)(base:Nat)(a:Option Addr)(c:Nat)(M:List RuX):Prop:=w.ownsRow base 39 5 (.slice a M.length c) M.length (M.flatMap rcells)/\∀ x∈M,RuP w base x
theorem RO.nil(w:World)(base:Nat):RO w base none 0 []:=⟨World.ownsRow_nil _ _ _ _,fun x hx=>by simp at hx⟩
theorem RO.same{base:Nat}{w w':World}{a:Option Addr}{c:Nat}{M:List RuX}(h:RO w base a c M)(hs:Same (39 :: rTys) base w w'):RO w' base a c M:=⟨zcY h.1 hs (by decide),fun x hx=>(h.2 x hx).same (hs.less (fun t ht=>List.mem_cons_of_mem _ ht))⟩
theorem RO.rs{l:Bs}{base g:Nat}{w w':World}{a:Option Addr}{c:Nat}{M:List RuX}(h:RO w base a c M)(hr:Rs g l w w')(hg:g<base):RO w' base a c M:=h.same (Same.rs hr hg)
end Go.Proofs.YtjjjagepnnbebaaGreatDoor
namespace Go.Proofs.YtjjjagepnnbebaaGreatDoor
open Go.RowKit
attribute [local go_sem ↓] Go.wp_at_zero Go.wp_at_succ
def ruV(nm:ByteArray)(sal:Int)(p e a:Value):Value:=.agg #[.string nm,.int .i64 sal,p,e,a]
def RB(w:World)(b:Nat)(nm:ByteArray)(sal:Int)(p e a:Value):Prop:=w.heap[b]?=some (.cells #[.string nm,.int .i64 sal,p,e,a] 39 (0,0))
def PB(w:World)(b:Nat)(neg:Bool)(cls:ByteArray)(t:Value):Prop:=w.heap[b]?=some (.cells #[.bool neg,.string cls,t] 78 (0,0))
theorem PB.facts{w:World}{b:Nat}{neg:Bool}{cls:ByteArray}{t:Value}(h:PB w b neg cls t):(w.cell? ⟨b,0,none⟩=some (.bool neg)/\w.cell? ⟨b,1,none⟩=some (.string cls)/\w.cell? ⟨b,2,none⟩=some t)/\(∀ j,w.frozen? ⟨b,j,none⟩=false)/\b<w.heap.size:=by
 unfold PB at h;refine ⟨⟨?_,?_,?_⟩,fun j=>?_,zab h⟩ <;> simp[World.cell?,World.frozen?,h]
abbrev nilS:Value:=.slice none 0 0
theorem RB.facts{w:World}{b:Nat}{nm:ByteArray}{sal:Int}{p e a:Value}(h:RB w b nm sal p e a):(w.cell? ⟨b,0,none⟩=some (.string nm)/\w.cell? ⟨b,1,none⟩=some (.int .i64 sal)/\w.cell? ⟨b,2,none⟩=some p/\w.cell? ⟨b,3,none⟩=some e/\w.cell? ⟨b,4,none⟩=some a)/\(∀ j,w.frozen? ⟨b,j,none⟩=false)/\b<w.heap.size:=by
 unfold RB at h;refine ⟨⟨?_,?_,?_,?_,?_⟩,fun j=>?_,zab h⟩ <;> simp[World.cell?,World.frozen?,h]
theorem zld:(Tryz.prog.info? 9).map (fun i=>(i.zero,i.size,i.bytes))=some (some (.string ⟨#[]⟩),1,16):=by kernel_rfl
theorem zqZ:(Tryz.prog.info? 95).map (fun i=>(i.zero,i.size,i.bytes))=some (some (.agg #[.int .i64 0,.int .i64 0,.string ⟨#[]⟩,.int .i64 0,.int .i64 0,.string ⟨#[]⟩]),6,64):=by kernel_rfl
theorem zqC:(Tryz.prog.info? 78).map (fun i=>(i.zero,i.size,i.bytes))=some (some (.agg #[.bool false,.string ⟨#[]⟩,.slice none 0 0]),3,48):=by kernel_rfl
theorem zmA(ks:List ByteArray):∀ u∈ks.map Value.string,u.oneCell'=true:=by
 intro u E;obtain ⟨s,_,rfl⟩:=List.mem_map.1 E;rfl
theorem zq1{w:World}{base n:Nat}{e:TypeId}{a:Option Addr}{c:Nat}{xs:List Value}(h:w.ownsRow base e 1 (.slice a n c) n xs):(a=none->n=0)/\∀ E,a=some E->∀ (j:Nat) u,xs[j]?=some u->w.cell? (E.add j)=some u:=by
 constructor
 ·intro ha;rcases h.2 with ⟨_,G⟩ | ⟨g,cap,cur,he,_⟩
  ·exact G
  subst ha;simp at he
 intro E ha j u I;obtain ⟨g,hg,_,O,_⟩:=zbE h I;rw[hg]at ha;injection ha with ha;subst ha;rw[Addr.add_mid,Nat.zero_add];exact O
theorem zrW(k:Nat)(hk:k<10):(⟨#[114]⟩:ByteArray) ++ digB k=nmK k:=by
 have:∀ k:Fin 10,(⟨#[114]⟩:ByteArray) ++ digB k.val=nmK k.val:=by decide
 exact this ⟨k,hk⟩
def PK(L:List PtV)(K:List ByteArray)(pos:Nat):Prop:=zbO (L.map Prod.fst) [] 1=.inr K/\positives (L.map Prod.fst)=pos
theorem PK.nil:PK [] [] 0:=⟨rfl,rfl⟩
theorem PK.snoc{L:List PtV}{K G H:List ByteArray}{pos E:Nat}{neg:Bool}{cls:ByteArray}{ts:List Tm}{v:Value}(h:PK L K pos)(ht:zaz ts K=some H)(hp:E=pos/\neg=true∨E=pos+1/\neg=false)(hK:G=(if neg then K else H)):PK (L ++ [(⟨neg,cls,ts⟩,v)]) G E:=by
 constructor
 ·rw[List.map_append,hK];exact ze2 h.1 (p:=⟨neg,cls,ts⟩) ht
 have:=h.2;unfold positives at this ⊢;rw[List.map_append,List.countP_append,this];rcases hp with ⟨rfl,rfl⟩ | ⟨rfl,rfl⟩ <;> rfl
theorem zro{K:List ByteArray}{t:Tm}(h:zfS K t)(hk:(t.kind==2)=true):GNm t.var:=by
 refine ⟨h.1.1,?_⟩;have h2:=h.1.2.2;have e:t.kind=2:=by simpa using hk
 simp[gTm,e]at h2;exact h2.2.1
theorem zi1:(Tryz.prog.info? 73).map (fun i=>(i.zero,i.size,i.bytes))=some (some (.agg #[.int .i64 0,.int .i64 0,.string ⟨#[]⟩,.slice none 0 0]),4,56):=by kernel_rfl
def AB(w:World)(b:Nat)(x0 x1 x2 x3:Value):Prop:=w.heap[b]?=some (.cells #[x0,x1,x2,x3] 73 (0,0))
theorem AB.facts{w:World}{b:Nat}{x0 x1 x2 x3:Value}(h:AB w b x0 x1 x2 x3):(w.cell? ⟨b,0,none⟩=some x0/\w.cell? ⟨b,1,none⟩=some x1/\w.cell? ⟨b,2,none⟩=some x2/\w.cell? ⟨b,3,none⟩=some x3)/\(∀ j,w.frozen? ⟨b,j,none⟩=false)/\b<w.heap.size:=by
 unfold AB at h;refine ⟨⟨?_,?_,?_,?_⟩,fun j=>?_,zab h⟩ <;> simp[World.cell?,World.frozen?,h]
theorem Qs.setQ{g b o:Nat}{l:Bs}{ow:Option Nat}{u v:World}{x:Value}(h:Qs g b l ow u v)(hg:g<b):Qs g b l ow u (v.setCell ⟨b,o,none⟩ x):=
 ⟨h.rest.setCell (Nat.zero_le _) _,fun k hk h1 h2 h3=>(Below.heap_setCell _ _ _ _ (by simpa using h2)).trans (h.block k hk h1 h2 h3),h.rdr.old ((Below.refl _ _).setCell (by simp;omega) _)⟩
def AQ(K:List ByteArray)(pos:Nat)(F:List Ex->Prop)(w:World)(b base:Nat)(x0 x1 x2:Value)(Ys:List AcV):Prop:=∃ (aa:Option Addr) (ac:Nat) (a:Option Addr) (c:Nat) (xs:List Ex) (m:Nat),QB w b base x0 x1 x2 (.slice aa Ys.length ac) a c xs/\(xs.length<=7 * m/\xs.length<=50+m/\m<=3 * Ys.length/\zdp K pos 0 xs (Ys.map Prod.fst))/\AcO w base aa ac Ys/\F xs
theorem zgv{K:List ByteArray}{pos m m':Nat}{xs ys:List Ex}{Ys:List AcV}{A:Ac}{v:Value}(h:zdp K pos 0 xs (Ys.map Prod.fst))(G:zav A=true/\A.args.length<=6/\zbI pos A=true)(ht:Trees K xs.length ys A.args)(E:(xs ++ ys).length<=7 * m')(I:(xs ++ ys).length<=50+m')(hm:m'<=m+3)(O:m<=3 * Ys.length) :
  (xs ++ ys).length<=7 * m'/\(xs ++ ys).length<=50+m'/\m'<=3 * (Ys ++ [(A,v)]).length/\zdp K pos 0 (xs ++ ys) ((Ys ++ [(A,v)]).map Prod.fst):=by
 refine ⟨E,I,by simp;omega,?_⟩;rw[List.map_append];exact h.snoc G (by simpa using ht)
theorem zrq(pos:Nat):zav ⟨4,0,⟨#[]⟩,[]⟩=true/\(⟨4,0,⟨#[]⟩,[]⟩:Ac).args.length<=6/\zbI pos ⟨4,0,⟨#[]⟩,[]⟩=true:=⟨by simp[zav,zdo],by simp,by simp[zbI]⟩
theorem zrr{pos:Nat}{z:Int}(h:1<=z/\z<=(pos:Int))(hp:pos<=3):zav ⟨2,z,⟨#[]⟩,[]⟩=true/\(⟨2,z,⟨#[]⟩,[]⟩:Ac).args.length<=6/\zbI pos ⟨2,z,⟨#[]⟩,[]⟩=true:=⟨by simp[zav,zdo,kOk];omega,by simp,by simp[zbI];omega⟩
theorem zrR{pos:Nat}{z:Int}{zs:List Int}(h:1<=z/\z<=(pos:Int))(hp:pos<=3)(hz:zs.length<=3):zav ⟨3,z,⟨#[]⟩,zs⟩=true/\(⟨3,z,⟨#[]⟩,zs⟩:Ac).args.length<=6/\zbI pos ⟨3,z,⟨#[]⟩,zs⟩=true:=⟨by simp[zav,zdo,kOk];omega,by simp;omega,by simp[zbI];omega⟩
theorem zr7{pos:Nat}{cl:ByteArray}{zs:List Int}(h:GCl cl)(hz:zs.length<=3):zav ⟨1,0,cl,zs⟩=true/\(⟨1,0,cl,zs⟩:Ac).args.length<=6/\zbI pos ⟨1,0,cl,zs⟩=true:=⟨by simp[zav,h.2],by simp;omega,by simp[zbI]⟩
theorem AcO.snoc{w G:World}{base:Nat}{a a9:Option Addr}{c c9:Nat}{Y:List AcV}{x:AcV}(h:AcO w base a c Y)(hx:AcP w base x)(ho:G.ownsRow base 73 4 (.slice a9 (Y.length+1) c9) (Y.length+1) (Y.flatMap acells ++ acells x))(hg:w.grownBy G (Value.slice a Y.length c).ownBlock):AcO G base a9 c9 (Y ++ [x]):=by
 refine ⟨by simpa using ho,fun y hy=>?_⟩;have E:AcP w base y:=by
  rcases List.mem_append.1 hy with hy | hy
  ·exact h.2 y hy
  simp at hy;exact hy ▸ hx
 exact ⟨E.1,zbF (t:=73) E.2 hg (fun k hk=>zaA h.1 hk) (by decide)⟩
theorem zjZ{P:World->Prop}(Q:Int->Prop){w:World}{E:Nat}{kd G:Int}{x0 x1 x2 x3:Value}(O:AB w E x0 x1 x2 x3)(hk:Q G)(h:∀ I z,Q z->AB I E (.int .i64 kd) (.int .i64 z) x2 x3->Turned w I E->P I):P ((w.setCell ⟨E,0,none⟩ (.int .i64 kd)).setCell ⟨E,1,none⟩ (.int .i64 G)):=
 h _ G hk (by have:=zap (i:=1) (zap (i:=0) O (.int .i64 kd)) (.int .i64 G);simpa[AB] using this) (Turned.setCells [.int .i64 kd,.int .i64 G] 0 w E)
theorem zlz{P:World->Prop}{w:World}{E:Nat}{x0 x1 x2 x3 v:Value}(I:AB w E x0 x1 x2 x3)(h:∀ G,AB G E v x1 x2 x3->Turned w G E->P G):P (w.setCell ⟨E,0,none⟩ v):=
 h _ (by have:=zap (i:=0) I v;simpa[AB] using this) (Turned.setCells [v] 0 w E)
theorem zkX{P:World->Prop}{w:World}{E:Nat}{x0 x1 x2 x3 v:Value}(I:AB w E x0 x1 x2 x3)(h:∀ G,AB G E x0 x1 x2 v->Turned w G E->P G):P (w.setCell ⟨E,3,none⟩ v):=
 h _ (by have:=zap (i:=3) I v;simpa[AB] using this) (Turned.setCells [v] 3 w E)
theorem zoY{P:World->Prop}{w:World}{E:Nat}{x0 x1 x2 x3 v:Value}(I:AB w E x0 x1 x2 x3)(h:∀ G,AB G E x0 x1 v x3->Turned w G E->P G):P (w.setCell ⟨E,2,none⟩ v):=
 h _ (by have:=zap (i:=2) I v;simpa[AB] using this) (Turned.setCells [v] 2 w E)
theorem Rs.qs{g b:Nat}{l I:Bs}{o:Option Nat}{u v:World}(h:Qs g b l o u v)(w0:World)(G:Rs g I w0 u)(hb:w0.heap.size<=b)(ho:∀ k,o=some k->w0.heap.size<=k):Rs g l w0 v:=
 ⟨⟨G.1.rest.trans h.rest,fun k hk E=>(h.block k (Nat.lt_of_lt_of_le hk G.1.rest.size) (fun e=>E (by rw[e])) (by omega) (fun e=>by have:=ho k e;omega)).trans (G.1.block k hk E)⟩,h.rdr⟩
theorem PO.qs{w w':World}{l:Bs}{base g b:Nat}{o:Option Nat}{a:Option Addr}{c:Nat}{L:List PtV}{cb:Array Value}(h:PO w base a c L)(U:Qs g b l o w w')(hg:g<base)(hb:w.heap[b]?=some (.cells cb 39 (0,0)))(ho:o=none):PO w' base a c L:=by
 subst ho;have E:∀ {e:TypeId}{m:Nat}{v:Value}{n:Nat}{xs:List Value},w.ownsRow base e m v n xs->e≠39->w'.ownsRow base e m v n xs:=fun G O=>zar G fun k hk=>U.block k (G.lt k hk).2 (by have:=(G.lt k hk).1;omega) (fun e=>by
  obtain ⟨X,I⟩:=zaA G hk;subst e;exact zcM I hb O) (by simp)
 exact ⟨E h.1 (by decide),fun x hx=>⟨(h.2 x hx).1,E (h.2 x hx).2.1 (by decide),(h.2 x hx).2.2⟩⟩
theorem mod8{n c:Nat}(h:n % 8=c):(n:Int) % 8=(c:Int):=by omega
theorem zqL:(Tryz.prog.info? 39).map (·.size)=some 5:=by kernel_rfl
theorem zhq(g k:Nat)(l:Bs)(w:World)(h:Rdr w g l)(hk:k<10) :
  Calls Tryz.prog 35 #[.pointer (some ⟨g,0,none⟩),.int .i64 (k:Int)] w fun e w'=>∃ x:RuX,e=.returned (ruV x.nm x.sal x.pv x.ev x.av)/\(DRu k x.ru/\Hid (x.ru=(zgo (nmK k) l).1))/\(-9223372036854775808<=x.sal/\x.sal<=9223372036854775807)/\RuP w' w.heap.size x/\Rs g (zgo (nmK k) l).2 w w':=by
 have H:=hidR h;have ar:=h.lt;clear h;have HA:=zHA w;have er:=hidR (fun o=>H.out.bel (HA.out o));go_enter Tryz.func35,Tryz.ntmps35;go_wp2_with fail
 refine (zbQ g l _ (er.out _)).mono ?_;rintro e w1 ⟨n1,fG,rfl,cx,da⟩;have cE:=hidR (zbn cx (heap_alloc_new _ _) (by omega));have R1:=hidR ((Rs.of H.out (HA.out _)).trans cx);have eC:w.heap.size<w1.heap.size:=zab cE.out;clear cx HA er H;go_wp2_with fail
 refine (zov k w1 hk).mono ?_;rintro e w2 ⟨rfl,bT⟩;have fL:=bT.size;have dU:=hidR ((bT.block _ eC).trans cE.out);have R2:=hidR (R1.out.bel bT);clear bT cE R1;go_upto_if 28 with fail
 refine zaf ?_;intro w3 bS d2;obtain ⟨nm,dk⟩:∃ nm,nm=(⟨#[114]⟩:ByteArray) ++ digB k:=⟨_,rfl⟩
 have cP:=hidR (show nm=nmK k from by rw[dk];exact zrW k hk);have fI:=bS.size;have db:=hidR (show RB w3 w.heap.size _ _ _ _ _ from (bS.block _ (by omega)).trans dU.out);have Q3:=hidR (show RB w3 w2.heap.size _ _ _ _ _ from d2);have R3:=hidR (R2.out.bel bS);clear bS d2 dU R2
 go_cut [] (fun wx=>∃ sal,(-9223372036854775808<=sal/\sal<=9223372036854775807)/\Hid (sal=salF (nxc l))/\RB wx w2.heap.size (⟨#[114]⟩ ++ digB k) sal nilS nilS nilS/\RB wx w.heap.size ⟨#[]⟩ 0 nilS nilS nilS/\Rs g l.tail w wx)
 case first=>
  obtain ⟨⟨f0,f1,f2,f3,f4⟩,z,ep⟩:=Q3.out.facts;have z1:=z 1;clear z;by_cases ch:n1=255
  ·subst ch;go_wp2_with fail
   go_meet;exact ⟨-9223372036854775808,by omega,show _=_ from by rw[da.out];rfl,by have:=zap (i:=1) Q3.out (.int .i64 (-9223372036854775808));simpa[RB] using this,(Below.heap_setCell _ _ _ _ (by simp;omega)).trans db.out,R3.out.setOwn (by omega) ar⟩
  ·have eB:¬ (n1:Int)=255:=by omega
   go_wp2_with fail
   go_meet;exact ⟨_,by omega,show _=_ from by rw[da.out];unfold salF;rw[if_neg ch];omega,Q3.out,db.out,R3.out⟩
 case rest=>
  obtain ⟨sal,dq,cJ,hq,bj,hR⟩:=hcut;have Q4:=hidR hq;have dF:=hidR bj;have R4:=hidR hR;obtain ⟨n0,d6⟩:∃ n0,n0=1+n1 / 5 % 4:=⟨_,rfl⟩
  have eE:=hidR d6;have d1:1+(n1:Int) / 5 % 4=(n0:Int):=by omega
  have fd:1<=n0/\n0<=4:=by omega
  obtain ⟨bq,dz⟩:∃ bq,bq=w2.heap.size:=⟨_,rfl⟩
  have fg:w.heap.size<bq:=by omega
  have fF:=hR.1.rest.size;rw[<- dz]at Q4 ⊢;clear hq bj hR Q3 db R3 d6 dz;rw[<- dk]at Q4;clear dk;go_wp2_with fail
  clear d1
  go_loopw [7,8,9] (fun d7 kv nv wr=>∃ (pos:Nat) (L:List PtV) (pa:Option Addr) (pc:Nat) (ka:Option Addr) (kn kc:Nat) (K:List ByteArray) (lr:Bs),d7=.int .i64 (pos:Int)/\kv=.slice ka kn kc/\nv=.int .i64 ((n0:Int) - (L.length:Int))/\pos<=3/\pos<=L.length/\L.length<=6/\(pos=0->L.length<=5)/\RB wr bq nm sal (.slice pa L.length pc) nilS nilS/\RB wr w.heap.size ⟨#[]⟩ 0 nilS nilS nilS/\PO wr w.heap.size pa pc L/\SO K wr w.heap.size ka kn kc/\kn<=3 * L.length/\PK L K pos/\Rs g lr w wr/\PFs n0 l.tail (L.map Prod.fst) K pos lr) (fun _ _ nv _=>(intOf nv+10).toNat)
  case atStart=>exact ⟨0,[],none,0,none,0,0,[],l.tail,rfl,rfl,by simp,by omega,by simp,by simp,by simp,Q4.out,dF.out,PO.nil _ _,⟨by omega,[],⟨rfl,rfl⟩,by simp,World.ownsRow_nil _ _ _ _⟩,by simp,PK.nil,R4.out,PFs.nil⟩
  case round=>
   obtain ⟨pos,L,pa,pc,ka,kn,kc,K,lr,rfl,rfl,rfl,cK,ft,dh,eQ,hq,bj,dX,bo,fB,eh,hR,dt⟩:=hrel;have dO:=hidR dt;clear dt;have cy:=hidR eh;clear eh;have Q:=hidR hq;have bX:=hidR bj;have PL:=hidR dX;have KO:=hidR bo;have R:=hidR hR;have dr:=hR.1.rest.size;clear hq bj dX bo hR Q4 dF R4;by_cases dB:L.length<n0∨pos=0
   ·go_upto_region 8 with fail
    go_cut [39] (fun c wx=>c=.bool true/\wr=wx)
    case first=>
     by_cases fw:L.length<n0
     ·have ee:(0:Int)<(n0:Int) - (L.length:Int):=by omega
      go_wp2_with fail
      go_meet;exact ⟨rfl,rfl⟩
     ·have ee:¬ (0:Int)<(n0:Int) - (L.length:Int):=by omega
      have fH:((pos:Int)==0)=true:=by simp;omega
      go_wp2_with fail
      go_meet;exact ⟨by simp,rfl⟩
    case rest=>
     obtain ⟨dl,de⟩:=hcut;subst dl;subst de;have dM:=hidR R.out.2;go_wp2_with fail
     refine (zbQ g lr _ dM.out).mono ?_;rintro e wa ⟨n2,fK,rfl,cX,dj⟩;have RA:=hidR cX;have fO:=cX.1.rest.size;clear cX dM;go_upto_region 11 with fail
     go_cut [11] (fun pv wx=>∃ (pb:Nat) (neg:Bool) (cls:ByteArray),pv=.pointer (some ⟨pb,0,none⟩)/\wr.heap.size<=pb/\PB wx pb neg cls nilS/\GCl cls/\(neg=false->pos≠3)/\Rs g lr.tail wr wx/\Hid (neg=(n2 % 4==3 || pos==3)/\cls=clsF n2))
     case first=>
      by_cases dE:n2 % 4=3
      ·go_wp2_with fail
       refine (zhb n2 wa).mono ?_;rintro e wb ⟨cls,aC,rfl,aS,aB⟩;have bV:=hidR (RA.out.bel aS);have e5:=aS.size;clear aS;go_wp2_with fail
       go_meet;exact ⟨wb.heap.size,true,cls,rfl,by omega,heap_alloc_new _ _,aC,by simp,bV.out.bel ((Below.refl _ _).alloc (Nat.le_refl _) _),show _/\_ from ⟨by simp[dE],aB.out⟩⟩
      ·have fb:((n2:Int) % 4==3)=false:=by simp;omega
       go_wp2_with fail
       refine (zhb n2 wa).mono ?_;rintro e wb ⟨cls,aC,rfl,aS,aB⟩;have bV:=hidR (RA.out.bel aS);have e5:=aS.size;clear aS
       cases aL:((pos:Int)==3)
       rotate_left
       ·have HP:=hidR aL;go_wp2_with fail
        go_meet;exact ⟨wb.heap.size,true,cls,rfl,by omega,heap_alloc_new _ _,aC,by simp,bV.out.bel ((Below.refl _ _).alloc (Nat.le_refl _) _),show _/\_ from ⟨by have h3:pos=3:=(by have:=beq_iff_eq.1 HP.out;omega);simp[h3],aB.out⟩⟩
       ·have HP:=hidR aL;go_wp2_with fail
        go_meet;exact ⟨wb.heap.size,false,cls,rfl,by omega,heap_alloc_new _ _,aC,fun _ hh=>by subst hh;simp at aL,bV.out.bel ((Below.refl _ _).alloc (Nat.le_refl _) _),show _/\_ from ⟨by have h3:¬ pos=3:=(fun h=>by have:=HP.out;rw[h]at this;simp at this);simp[h3,dE],aB.out⟩⟩
     case rest=>
      obtain ⟨pb,neg,cls,rfl,dv,bi,aC,cp,bZ,et⟩:=hcut;obtain ⟨wp,rfl⟩:∃ v,v=wc:=⟨wc,rfl⟩
      have P1:=hidR bi;have RP:=hidR bZ;have Q1:=hidR (show RB wp bq nm sal (.slice pa L.length pc) nilS nilS from zbn bZ Q.out (by omega));have fq:=bZ.1.rest.size;clear bi bZ RA;go_upto_region 12 with fail
      go_cut [61] (fun c wx=>c=.bool (((L.length:Int)==5) && ((pos:Int)==0))/\wp=wx)
      case first=>
       obtain ⟨⟨f0,f1,f2,f3,f4⟩,z,ep⟩:=Q1.out.facts;clear z
       cases h5:((L.length:Int)==5)
       ·go_wp2_with fail
        go_meet;exact ⟨by simp[h5],rfl⟩
       ·cases dH:((pos:Int)==0)
        ·go_wp2_with fail
         go_meet;exact ⟨by simp[h5,dH],rfl⟩
        ·go_wp2_with fail
         go_meet;exact ⟨by simp[h5,dH],rfl⟩
      case rest=>
       obtain ⟨dl,de⟩:=hcut;subst dl;subst de;go_upto_if 61 with fail
       go_cut [] (fun wx=>∃ I,PB wx pb I cls nilS/\(I=false->pos≠3)/\(L.length=5->pos=0->I=false)/\Rs g lr.tail wr wx/\Hid (I=(if L.length=5/\pos=0 then false else (n2 % 4==3 || pos==3))))
       case first=>
        obtain ⟨⟨p0,p1,p2⟩,z,fc⟩:=P1.out.facts;have z0:=z 0;clear z
        cases aQ:(((L.length:Int)==5) && ((pos:Int)==0))
        ·go_wp2_with fail
         go_meet;exact ⟨neg,P1.out,cp,fun h1 h2=>by rw[h1,h2]at aQ;simp at aQ,RP.out,show _=_ from by rw[if_neg (fun h=>by rw[h.1,h.2]at aQ;simp at aQ)];exact et.out.1⟩
        ·go_wp2_with fail
         go_meet;refine ⟨false,?_,fun _ h3=>by rw[h3]at aQ;simp at aQ,fun _ _=>rfl,RP.out.setOwn dv (by omega),show _=_ from by rw[if_pos (by simp at aQ;omega)]⟩;have:=zap (i:=0) P1.out (.bool false);simpa[PB] using this
       case rest=>
        obtain ⟨I,aq,cU,cw,cS,eO⟩:=hcut;obtain ⟨wq,rfl⟩:∃ v,v=wc:=⟨wc,rfl⟩
        have P2:=hidR aq;have RQ:=hidR cS;have eU:=cS.1.rest.size;have aM:g<wr.heap.size:=by omega
        obtain ⟨bQ,ks,cf,cn,bH⟩:=KO.out.rs RQ.out ar;have cv:=hidR (zq1 bH);have cT:=hidR cf;have d9:=hidR cn;clear aq cS bH cf cn P1 RP Q1 cp;go_upto_region 16 with (first | (at_builtin;refine zag (by rfl) (.tmp 63) (.tmp 64) 75 (by rfl) wq.heap.size 9 _ 1 16 Tryz.underlying75 zld (by rfl) (by omega) _ 0 [] (by rfl) (World.ownsRow_nil _ _ _ _) ka kn kc (by rfl) (ks.map Value.string) (by simp[cT.out.2]) cv.out.1 cv.out.2 (zmA ks) (by unfold maxLen;omega) (by omega) (Nat.le_refl _) ?_;intro a3 c3 w3 dG b8 eH;simp only[Nat.zero_add]) | fail);have RH:=hidR (RQ.out.grown b8.out (fun k hk=>by simp[Value.ownBlock]at hk) aM);have ef:=hidR (show SO K w3 wr.heap.size a3 kn c3 from ⟨bQ,ks,cT.out,d9.out,by have:=dG.out;rw[Nat.zero_add,List.nil_append]at this;exact zaO this eU⟩);have P3:=hidR (show PB w3 pb I cls nilS from (b8.out.block pb (zab P2.out) (by simp[Value.ownBlock])).trans P2.out);have ff:=b8.out.size;clear dG b8 eH cv cT d9 P2 RQ
        go_cut [13] (fun mv wx=>∃ m0:Nat,m0<=3/\mv=.int .i64 (m0:Int)/\Below w3.heap.size w3 wx/\Hid (patC n2=m0))
        case first=>
         have h6:n2 / 12 % 6=0∨n2 / 12 % 6=1∨n2 / 12 % 6=2∨n2 / 12 % 6=3∨n2 / 12 % 6=4∨n2 / 12 % 6=5:=by omega
         rcases h6 with h6 | h6 | h6 | h6 | h6 | h6
         all_goals
          go_wp2_with fail
          go_meet
         ·exact ⟨1,by omega,rfl,(Below.refl _ _).alloc (Nat.le_refl _) _,show _=_ from by simp[patC,h6]⟩
         ·exact ⟨2,by omega,rfl,(Below.refl _ _).alloc (Nat.le_refl _) _,show _=_ from by simp[patC,h6]⟩
         ·exact ⟨2,by omega,rfl,(Below.refl _ _).alloc (Nat.le_refl _) _,show _=_ from by simp[patC,h6]⟩
         ·exact ⟨1,by omega,rfl,(Below.refl _ _).alloc (Nat.le_refl _) _,show _=_ from by simp[patC,h6]⟩
         ·exact ⟨0,by omega,rfl,(Below.refl _ _).alloc (Nat.le_refl _) _,show _=_ from by simp[patC,h6]⟩
         ·exact ⟨3,by omega,rfl,(Below.refl _ _).alloc (Nat.le_refl _) _,show _=_ from by simp[patC,h6]⟩
        case rest=>
         obtain ⟨m0,bK,rfl,bm,eV⟩:=hcut;obtain ⟨w4,rfl⟩:∃ v,v=wc:=⟨wc,rfl⟩
         have RI:=hidR (RH.out.bel bm);have SI:=hidR (show SO K w4 wr.heap.size a3 kn c3 from by obtain ⟨q1,q2,q3,q4,q5⟩:=ef.out;exact ⟨q1,q2,q3,q4,zao q5 bm⟩);have PI:=hidR (show PB w4 pb I cls nilS from (bm.block pb (zab P3.out)).trans P3.out);have fl:=bm.size;clear bm RH ef P3;obtain ⟨wR,rfl⟩:∃ v,v=wr:=⟨wr,rfl⟩
         go_wp2_with fail
         go_loopw [12,13] (fun hv mv wr=>∃ (j:Nat) (ha:Option Addr) (hn hc:Nat) (ta:Option Addr) (tc:Nat) (ts:List Tm) (Hh:List ByteArray) (li:Bs),mv=.int .i64 (j:Int)/\hv=.slice ha hn hc/\ts.length+j=m0/\SO Hh wr wR.heap.size ha hn hc/\hn<=kn+ts.length/\zaz ts K=some Hh/\PB wr pb I cls (.slice ta ts.length tc)/\wr.ownsRow wR.heap.size 95 6 (.slice ta ts.length tc) ts.length (ts.flatMap zbA)/\(∀ t∈ts,TmSm t)/\Rs g li wR wr/\TFs m0 K lr.tail ts j Hh li) (fun _ mv _=>(intOf mv).toNat)
         case atStart=>exact ⟨m0,a3,kn,c3,none,0,[],K,lr.tail,rfl,rfl,by simp,SI.out,by simp,rfl,PI.out,World.ownsRow_nil _ _ _ _,by simp,RI.out,TFs.nil⟩
         case round=>
          obtain ⟨j,ha,hn,hc,ta,tc,ts,Hh,li,rfl,rfl,hj,bo,fo,dP,bi,em,cj,dc,dQ⟩:=hrel;have dK:=hidR dQ;clear dQ;have HJ:=hidR hj;have dw:=hidR dP;clear dP;have eR:ts.length<=3:=by omega
          have ey:j<=3:=by omega
          have bM:=hidR bo;have cA:=hidR bi;have b7:=hidR em;have c8:=hidR cj;have Ri:=hidR dc;have fx:=dc.1.rest.size;clear hj bo bi em cj dc SI PI RI;by_cases dg:j=0
          ·clear HJ;subst dg;have RW:=hidR (R.out.trans Ri.out);have Qi:=hidR (show RB wr bq nm sal (.slice pa L.length pc) nilS nilS from zbn Ri.out Q.out (by omega));have ed:=hidR (show RB wr w.heap.size ⟨#[]⟩ 0 nilS nilS nilS from zbn Ri.out bX.out (by omega));have bY:=hidR (PL.out.rs Ri.out ar);have dD:=hidR (KO.out.rs Ri.out ar);have dS:=hidR (show SO Hh wr w.heap.size ha hn hc from by obtain ⟨q1,q2,q3,q4,q5⟩:=bM.out;exact ⟨q1,q2,q3,q4,zaO q5 dr⟩);have NX:=hidR (show PtX wr w.heap.size (⟨I,cls,ts⟩,.slice ta ts.length tc) from ⟨⟨ta,tc,rfl⟩,zaO b7.out dr,aC,eR,c8.out⟩);obtain ⟨⟨p0,p1,p2⟩,z,fe⟩:=cA.out.facts;clear z bM b7 c8 Q bX PL KO R;go_upto_if 95 with fail
           go_cut [7,8] (fun pv kv wx=>∃ (al:Nat) (bh:Option Addr) (a8 bC:Nat) (K':List ByteArray),pv=.int .i64 (al:Int)/\kv=.slice bh a8 bC/\(al=pos/\I=true∨al=pos+1/\I=false)/\SO K' wr w.heap.size bh a8 bC/\K'=(if I then K else Hh)/\a8<=3 * L.length+3/\wr=wx)
           case first=>
            cases hng:I
            ·rw[hng]at p0;go_wp2_with fail
             go_meet;exact ⟨pos+1,ha,hn,hc,Hh,by go_num,rfl,.inr ⟨rfl,by first | rfl | exact hng⟩,dS.out,by simp[hng],by omega,rfl⟩
            ·rw[hng]at p0;go_wp2_with fail
             go_meet;exact ⟨pos,ka,kn,kc,K,rfl,rfl,.inl ⟨rfl,by first | rfl | exact hng⟩,dD.out,by simp[hng],by omega,rfl⟩
           case rest=>
            obtain ⟨al,bh,a8,bC,K',rfl,rfl,bz,aG,dY,fk,eW⟩:=hcut;subst eW;have eJ:=hidR aG;have ct:=hidR bz;clear aG bz dD dS;obtain ⟨⟨f0,f1,f2,f3,f4⟩,z,fa⟩:=Qi.out.facts;clear z;have aK:=zHA wr;have TY:=hidR (fun o k hk=>zaA (zao bY.out.1 (aK.out o)) (k:=k) hk);go_wp2_with (first | (at_builtin;refine zag (by rfl) (.tmp 100) (.tmp 102) 35 (by rfl) w.heap.size 78 _ 3 48 Tryz.underlying35 zqC (by rfl) (by omega) _ L.length _ (by rfl) (zao bY.out.1 (aK.out _)) (some ⟨_,0,none⟩) 1 1 (by rfl) (pcells (⟨I,cls,ts⟩,.slice ta ts.length tc)) (by rfl) (fun e=>by cases e) (zas _ _ _ _ (by simp)) (zlQ _ rfl) (by unfold maxLen;omega) (by omega) (by simp;omega) ?_;intro a9 c9 w9 ax X bp;have Q9:=hidR (show RB w9 bq nm sal (.slice pa L.length pc) nilS nilS from zaL (((aK.out _).block _ fa).trans Qi.out) X.out (TY.out _) (by decide));obtain ⟨⟨k0,k1,k2,k3,k4⟩,z,eF⟩:=Q9.out.facts;have z2:=z 2;clear z) | fail);go_roundw
            case rel=>
             have cM:SO K' w9 w.heap.size bh a8 bC:=by
              obtain ⟨q1,q2,q3,q4,q5⟩:=eJ.out;exact ⟨q1,q2,q3,q4,zbF (zao q5 (aK.out _)) X.out (TY.out _) (by decide)⟩
             have dp:PO w9 w.heap.size a9 c9 (L ++ [(⟨I,cls,ts⟩,.slice ta ts.length tc)]):=PO.snoc (bY.out.bel (aK.out _)) (NX.out.bel (aK.out _)) ax.out X.out;have dW:RB w9 w.heap.size ⟨#[]⟩ 0 nilS nilS nilS:=zaL (((aK.out _).block _ (zab ed.out)).trans ed.out) X.out (TY.out _) (by decide);have eN:Rs g li w w9:=(RW.out.bel (aK.out _)).grown X.out (fun k hk=>(bY.out.1.lt k hk).1) ar;have ex:al<=3/\al<=L.length+1/\(al=0->L.length+1<=5):=by
              rcases ct.out with ⟨h1,h2⟩ | ⟨h1,h2⟩
              ·refine ⟨by omega,by omega,fun h0=>?_⟩;have h5:=eQ (by omega);by_cases eM:L.length=5
               ·have:=cw eM (by omega);rw[h2]at this
                cases this
               omega
              have:=cU h2;exact ⟨by omega,by omega,fun h0=>by omega⟩
             refine ⟨al,L ++ [(⟨I,cls,ts⟩,.slice ta ts.length tc)],a9,c9,bh,a8,bC,K',li,rfl,rfl,?_,ex.1,by simp;omega,by simp;omega,by simp;omega,?_,?_,?_,?_,by simp;omega,?_,eN.setOwn (by omega) ar,(by rw[List.map_append];exact PFs.step dO.out (by simp) dh dB (by rw[dj.out];exact eO.out) (by rw[dj.out];exact et.out.2) (by rw[dj.out,eV.out];exact dK.out.fin) dY ct.out)⟩
             ·simp;omega
             ·have:=zap (i:=2) Q9.out (.slice a9 (L.length+1) c9);simpa[RB] using this
             ·exact (Below.heap_setCell _ _ _ _ (by simp;omega)).trans dW
             ·exact dp.set Q9.out (by decide) (by decide)
             ·obtain ⟨q1,q2,q3,q4,q5⟩:=cM;exact ⟨q1,q2,q3,q4,zdO q5 Q9.out (by decide)⟩
             ·exact cy.out.snoc dw.out ct.out dY
            case measure=>(simp[intOf];omega)
          have e7:(0:Int)<(j:Int):=by omega
          go_wp2_with fail
          refine (zhr Hh g li ha hn hc wr Ri.out.2 (bM.out.on aM)).mono ?_;rintro e w5 ⟨t,⟨ht,eS⟩,rfl,aY⟩;have d4:=hidR (bM.out.rs aY aM);have cW:=hidR (show PB w5 pb I cls (.slice ta ts.length tc) from zbn aY cA.out (by omega));have eg:=hidR (zkY b7.out aY aM);have R5:=hidR (Ri.out.trans aY);have ez:=aY.1.rest.size;rw[show tmV t=.agg #[.int .i64 t.kind,.int .i64 t.op,.string t.var,.int .i64 t.val.kind,.int .i64 t.val.num,.string t.val.sym] from rfl];clear aY bM cA b7 Ri;go_upto_if 81 with fail
          refine zaf ?_;intro w6 ba ds;have di:=hidR (show SO Hh w6 wR.heap.size ha hn hc from by obtain ⟨q1,q2,q3,q4,q5⟩:=d4.out;exact ⟨q1,q2,q3,q4,zao q5 ba⟩);have bU:=hidR (show PB w6 pb I cls (.slice ta ts.length tc) from (ba.block pb (zab cW.out)).trans cW.out);have dn:=hidR (zao eg.out ba);have R6:=hidR (R5.out.bel ba);have bA:=hidR ds;have fu:=ba.size;clear ba ds d4 cW eg R5
          go_cut [12] (fun hv wx=>∃ (bO:Option Addr) (a6 bs:Nat) (H':List ByteArray),hv=.slice bO a6 bs/\SO H' wx wR.heap.size bO a6 bs/\a6<=kn+ts.length+1/\H'=(if t.kind==2 then Hh ++ [t.var] else Hh)/\PB wx pb I cls (.slice ta ts.length tc)/\wx.ownsRow wR.heap.size 95 6 (.slice ta ts.length tc) ts.length (ts.flatMap zbA)/\wx.heap[w5.heap.size]?=some (.cells #[.int .i64 t.kind,.int .i64 t.op,.string t.var,.int .i64 t.val.kind,.int .i64 t.val.num,.string t.val.sym] 95 (0,0))/\Rs g (zbV Hh li).2 wR wx)
          case first=>
           obtain ⟨t0,t1,t2,t3,t4,t5⟩:=cells6 bA.out
           cases cR:(t.kind==2)
           ·go_wp2_with fail
            go_meet;exact ⟨ha,hn,hc,Hh,rfl,di.out,by omega,by simp[cR],bU.out,dn.out,bA.out,R6.out⟩
           ·obtain ⟨q1,hs,q2,q3,q4⟩:=di.out;have cV:=hidR q4;have dI:=hidR q2;have eA:=hidR q3;have eu:hn<=1000:=q1;have aZ:=zHA w6;have dL:w5.heap.size<w6.heap.size:=zab bA.out;clear q1 q2 q3 q4;go_wp2_with (first | (at_builtin;refine zag (by rfl) (.tmp 82) (.tmp 85) 75 (by rfl) wR.heap.size 9 _ 1 16 Tryz.underlying75 zld (by rfl) (by omega) _ hn _ (by rfl) (zao cV.out (aZ.out _)) (some ⟨_,0,none⟩) 1 1 (by rfl) ([.string t.var]) (by rfl) (fun e=>by cases e) (zas _ _ _ _ (by simp)) (by intro u hu;simp at hu;subst hu;rfl) (by unfold maxLen;omega) (by omega) (by simp;omega) ?_;intro a7 c7 w7 e9 ca fr) | fail);go_meet;have ty:=fun k hk=>zaA (zao cV.out (aZ.out (.cells #[.string t.var] 9))) (k:=k) hk;exact ⟨a7,hn+1,c7,hs ++ [t.var],rfl,⟨by omega,hs ++ [t.var],⟨rfl,by simp[dI.out.2]⟩,by intro x hx;rcases List.mem_append.1 hx with hx | hx;exact eA.out x hx;simp at hx;exact hx ▸ zro ht cR,by simpa using e9.out⟩,by omega,by rw[dI.out.1];simp[cR],zaL (((aZ.out _).block _ (zab bU.out)).trans bU.out) ca.out ty (by decide),zbF (zao dn.out (aZ.out _)) ca.out ty (by decide),zaL (((aZ.out _).block _ dL).trans bA.out) ca.out ty (by decide),(R6.out.bel (aZ.out _)).grown ca.out (fun k hk=>(cV.out.lt k hk).1) aM⟩
          case rest=>
           obtain ⟨bO,a6,bs,H',rfl,aG,fh,dV,aq,ck,bB,cZ⟩:=hcut;obtain ⟨w8,rfl⟩:∃ v,v=wc:=⟨wc,rfl⟩
           have eY:=hidR aG;have eX:=hidR aq;have cN:=hidR ck;have R8:=hidR cZ;have fj:w5.heap.size<w8.heap.size:=zab bB;have d3:pb<w8.heap.size:=zab aq;have fy:=cZ.1.rest.size;obtain ⟨t0,t1,t2,t3,t4,t5⟩:=cells6 bB;obtain ⟨⟨p0,p1,p2⟩,z,_⟩:=aq.facts;have bd:=zHA w8;have TY:=hidR (fun o k hk=>zaA (zao cN.out (bd.out o)) (k:=k) hk);clear aG aq ck bB cZ z di bU dn R6 bA;go_wp2_with (first | (at_builtin;refine zag (by rfl) (.tmp 88) (.tmp 90) 76 (by rfl) wR.heap.size 95 _ 6 64 Tryz.underlying76 zqZ (by rfl) (by omega) _ ts.length _ (by rfl) (zao cN.out (bd.out _)) (some ⟨_,0,none⟩) 1 1 (by rfl) (zbA t) (by rfl) (fun e=>by cases e) (zas _ _ _ _ (by simp)) (zcr t) (by unfold maxLen;omega) (by omega) (by simp;omega) ?_;intro a9 c9 w9 ax X bp;have b9:=hidR (show PB w9 pb I cls (.slice ta ts.length tc) from zaL (((bd.out _).block _ d3).trans eX.out) X.out (TY.out _) (by decide));obtain ⟨⟨k0,k1,k2⟩,z,eF⟩:=b9.out.facts;have z2:=z 2;clear z) | fail);go_roundw
           case rel=>
            have cM:SO H' w9 wR.heap.size bO a6 bs:=by
             obtain ⟨q1,q2,q3,q4,q5⟩:=eY.out;exact ⟨q1,q2,q3,q4,zbF (zao q5 (bd.out _)) X.out (TY.out _) (by decide)⟩
            refine ⟨j - 1,bO,a6,bs,a9,c9,ts ++ [t],H',(zbV Hh li).2,?_,rfl,by simp;have:=HJ.out;omega,?_,by simp;omega,by rw[dV];exact zge dw.out ht.2,?_,?_,?_,?_,TFs.step dK.out (by omega) eS.out dV⟩
            ·rw[show ((j - 1:Nat):Int)=(j:Int) - 1 by omega]
            ·obtain ⟨q1,q2,q3,q4,q5⟩:=cM;exact ⟨q1,q2,q3,q4,zdO q5 b9.out (by decide)⟩
            ·have:=zap (i:=2) b9.out (.slice a9 (ts.length+1) c9);simpa[PB] using this
            ·have:=zdO (o:=2) (x:=.slice a9 (ts.length+1) c9) ax.out b9.out (by decide);simpa using this
            ·intro x hx;rcases List.mem_append.1 hx with hx | hx
             ·exact c8.out x hx
             simp at hx;exact hx ▸ ht.1
            ·exact ((R8.out.bel (bd.out _)).grown X.out (fun k hk=>(cN.out.lt k hk).1) aM).setOwn dv aM
           case measure=>(simp[intOf];omega)
   have fC:¬ (0:Int)<(n0:Int) - (L.length:Int):=by omega
   have fp:((pos:Int)==0)=false:=by simp;omega
   have c6:1<=pos:=by omega
   have fM:1<=L.length:=by omega
   obtain ⟨wz,rfl⟩:∃ v,v=wr:=⟨wr,rfl⟩
   go_wp2_with fail
   refine (zbQ g lr wz R.out.2).mono ?_;rintro e wL ⟨n3,fv,rfl,aT,eL⟩;have QL:=hidR (show RB wL bq nm sal (.slice pa L.length pc) nilS nilS from zbn aT Q.out (by omega));have dy:=hidR (show RB wL w.heap.size ⟨#[]⟩ 0 nilS nilS nilS from zbn aT bX.out (by omega));have eZ:=hidR (PL.out.rs aT ar);have cO:=hidR ((KO.out.rs aT ar).q (g:=g) (B:=wL.heap.size) ar (show wL.heap[bq]?=some (.cells _ 39 _) from QL.out) (by decide) (Nat.le_refl _));have RL:=hidR (R.out.trans aT);have fN:=aT.1.rest.size;have ad:g<wL.heap.size:=by omega
   have aA:g<bq:=by omega
   have aV:bq<wL.heap.size:=zab QL.out;have e4:=hidR (show ∀ s∈K,gSym s.data.toList=true from fun s hs=>by obtain ⟨_,ks,⟨rfl,_⟩,q,_⟩:=KO.out;exact (q s hs).2);clear aT Q bX PL KO R;obtain ⟨n5,dR⟩:∃ n5,n5=1+n3 % 3:=⟨_,rfl⟩
   have eD:=hidR dR;have ew:Hid (zd4 7 (1+nxc l / 5 % 4) [] 0 0 l.tail=(L.map Prod.fst,K,pos,lr)):=show _=_ from by rw[da.out,<- eE.out];exact dO.out.fin (by simpa using dh) (by simpa using dB)
   have dA:1+(n3:Int) % 3=(n5:Int):=by omega
   have fm:n5<=3:=by omega
   clear dR;go_wp2_with fail
   clear dA
   go_loopw [15] (fun nv wr=>∃ (j:Nat) (Ys:List AcV) (la:Bs),nv=.int .i64 (j:Int)/\Ys.length+j=n5/\AQ K pos (fun xs=>AFs n5 K pos lr.tail (Ys.map Prod.fst) j xs la) wr bq wL.heap.size (.string nm) (.int .i64 sal) (.slice pa L.length pc) Ys/\Qs g bq la none wL wr) (fun nv _=>(intOf nv).toNat)
   case atStart=>exact ⟨n5,[],lr.tail,rfl,by simp,⟨none,0,none,0,[],0,⟨QL.out,World.ownsRow_nil _ _ _ _,fun x hx=>by simp at hx⟩,⟨by simp,by simp,by simp,rfl⟩,AcO.nil _ _,AFs.nil⟩,⟨Below.refl _ _,fun _ _ _ _ _=>rfl,RL.out.2⟩⟩
   case round=>
    obtain ⟨j,Ys,la,rfl,hj,⟨aa,ac,a1,c1,ah,m,el,⟨b6,bW,bK,d8⟩,en,ek⟩,cB⟩:=hrel;have bG:=hidR (show AFs n5 K pos lr.tail (Ys.map Prod.fst) j ah la from ek);clear ek;have bk:=hidR d8;clear d8;have HJ:=hidR hj;have ey:j<=3:=by omega
    have fJ:Ys.length<=3:=by omega
    have bu:=hidR el;have bL:=hidR en;have aW:=hidR cB;have fi:=cB.rest.size;clear hj el en cB;by_cases dg:j=0
    ·clear HJ;subst dg;have dZ:=hidR (show RB wr w.heap.size ⟨#[]⟩ 0 nilS nilS nilS from (aW.out.block _ (zab dy.out) (by omega) (by omega) (by simp)).trans dy.out);have eo:=hidR (eZ.out.qs aW.out ar QL.out rfl);have Rz:=hidR (Rs.qs aW.out w RL.out (by omega) (fun k hk=>by cases hk));have dx:Hid (zgo (nmK k) l=(⟨nm,sal,L.map Prod.fst,ah,Ys.map Prod.fst⟩,la)):=show _=_ from by rw[<- cP.out];exact zoL cJ.out ew.out (by rw[eL.out,<- eD.out];exact bG.out.fin)
     obtain ⟨⟨q0,q1,q2,q3,q4⟩,z,fE⟩:=(show RB wr bq nm sal (.slice pa L.length pc) (.slice a1 ah.length c1) (.slice aa Ys.length ac) from bu.out.1).facts;clear z;go_wp2_with (first | (refine zac (by rfl) 39 (.tmp 4) (.tmp 162) (by rfl) w.heap.size [.string nm,.int .i64 sal,.slice pa L.length pc,.slice a1 ah.length c1,.slice aa Ys.length ac] (by rfl) (by rfl) _ 39 dZ.out (by rfl) zqL (by intro u hu;simp at hu;rcases hu with rfl | rfl | rfl | rfl | rfl <;> rfl) ?_;intro wy eT d0) | fail);obtain ⟨⟨f0,f1,f2,f3,f4⟩,z,fA⟩:=(show RB wy w.heap.size nm sal (.slice pa L.length pc) (.slice a1 ah.length c1) (.slice aa Ys.length ac) from eT.out).facts;refine bodyPost_ret (v:=ruV nm sal (.slice pa L.length pc) (.slice a1 ah.length c1) (.slice aa Ys.length ac)) (by simp[results,Tryz.results35,go_sem,f0,f1,f2,f3,f4,ruV]) rfl ⟨⟨nm,sal,.slice pa L.length pc,.slice a1 ah.length c1,.slice aa Ys.length ac,L,ah,Ys⟩,rfl,⟨⟨cP.out,K,pos,⟨?_,by simpa[RuX.ru] using dh,?_,cy.out.1,?_,cy.out.2,⟨c6,cK⟩,by simp[RuX.ru];omega,by simp only[RuX.ru];omega,bk.out⟩⟩,show _=_ from by rw[dx.out];rfl⟩,dq,?_,by rw[dx.out];exact Rz.out.turned d0.out (Nat.le_refl _) ar⟩
     ·show gSym nm.data.toList=true;rw[cP.out];exact zpC k hk
     ·intro p hp;obtain ⟨x,hx,rfl⟩:=List.mem_map.1 hp;have hX:=eo.out.2 x hx;simp only[gPt,Bool.and_eq_true,decide_eq_true_eq,List.all_eq_true];exact ⟨hX.2.2.1.2,by have:=hX.2.2.2.1;omega,fun t ht=>(hX.2.2.2.2 t ht).2.2⟩
     ·exact e4.out
     have sm:Same rTys w.heap.size wr wy:=Same.kept (fun k hk _=>d0.out.block k hk) dZ.out (by decide);have ao:AcO wr w.heap.size aa ac Ys:=⟨zaO bL.out.1 (by omega),fun y hy=>⟨(bL.out.2 y hy).1,zaO (bL.out.2 y hy).2 (by omega)⟩⟩
     exact RuP.same ⟨⟨pa,pc,rfl,eo.out⟩,⟨a1,c1,rfl,zaO bu.out.2.1 (by omega),bu.out.2.2⟩,aa,ac,rfl,ao⟩ sm
    have e7:(0:Int)<(j:Int):=by omega
    go_wp2_with fail
    refine (zbQ g la wr aW.out.rdr).mono ?_;rintro e w4 ⟨n4,e0,rfl,bN,bR⟩;have cr:=hidR (bu.out.rs bN (by omega) ad);have cH:=hidR (bL.out.rs bN ad);have dC:=hidR (aW.out.trans (Qs.of (o:=none) bN) (zc5.refl _ _));have eG:=bN.1.rest.size;clear bN bu bL aW;go_upto_region 32 with fail
    refine zaf ?_;intro w5 bP bF;obtain ⟨ab,aX⟩:∃ ab,ab=w4.heap.size:=⟨_,rfl⟩
    rw[<- aX]at bF ⊢;have ag:=hidR (show AB w5 ab _ _ _ _ from bF);have aJ:=hidR (cr.out.bel bP);have aH:=hidR (cH.out.bel bP);have aF:=hidR (dC.out.bel bP);have dN:=hidR (cO.out.qs aF.out (fun k hk=>by cases hk));have AN:=hidR (fun k (hk:(Value.slice aa Ys.length ac).ownBlock=some k)=>(show k≠ab by have:=(cH.out.1.lt k hk).2;omega));have EN:=hidR (fun (e:(Value.slice a1 ah.length c1).ownBlock=some ab)=>by have:=(cr.out.2.1.lt ab e).2;omega:(Value.slice a1 ah.length c1).ownBlock≠some ab);have au:wL.heap.size<=ab:=by omega
    have af:ab≠bq:=by omega
    have ez:=bP.size;have eK:ab<w5.heap.size:=zab ag.out;obtain ⟨⟨b0,b1,b2,b3⟩,z,_⟩:=ag.out.facts;have z0:=z 0;have z1:=z 1;have z2:=z 2;have z3:=z 3;have bt:¬ (pos:Int)=0:=by omega
    have d5:=hidR (show (1<=wrap64 (1+(n4:Int) / 8 % (pos:Int))/\wrap64 (1+(n4:Int) / 8 % (pos:Int))<=(pos:Int))/\Hid (wrap64 (1+(n4:Int) / 8 % (pos:Int))=1+((n4 / 8 % pos:Nat):Int)) from by refine ⟨?_,show _=_ from ?_⟩;rotate_left;(have h1:=Int.emod_nonneg ((n4:Int) / 8) bt;have h2:=Int.emod_lt_of_pos ((n4:Int) / 8) (show (0:Int)<(pos:Int) by omega);rw[show ((n4 / 8 % pos:Nat):Int)=(n4:Int) / 8 % (pos:Int) by push_cast;rfl];unfold wrap64;omega);have h1:=Int.emod_nonneg ((n4:Int) / 8) bt;have h2:=Int.emod_lt_of_pos ((n4:Int) / 8) (show (0:Int)<(pos:Int) by omega);unfold wrap64;omega);clear bP bF aX cr cH dC z;have h8:(n4 % 8=0∨n4 % 8=1∨n4 % 8=2)∨(n4 % 8=3∨n4 % 8=4)∨(n4 % 8=5∨n4 % 8=6)∨n4 % 8=7:=by omega
    have b4:=hidR e0;rcases h8 with h8 | h8 | h8 | h8
    ·clear b4;rcases h8 with h8 | h8 | h8
     all_goals
      have H8:=hidR h8;have hI:=mod8 h8;clear h8;have ei:=hidR (show ((n4:Int) / 8)=((n4 / 8:Nat):Int) by omega);go_upto_region 38 with fail
      refine zlz ag.out ?_;intro w6 cd b5;have dT:=hidR (aJ.out.turned b5 af EN.out);have du:=hidR (aH.out.turned b5 AN.out ag.out);have ej:=hidR (aF.out.turned b5 au ad);have cF:=hidR cd;clear b5 cd b0 b1 b2 b3 z0 z1 z2 z3 ag aJ aH aF dN;go_wp2_with fail
      rw[ei.out];refine (zhb (n4 / 8) w6).mono ?_;rintro e e6 ⟨cl,e8,rfl,br,aB⟩;have ce:=hidR (dT.out.bel br);have ci:=hidR (du.out.bel br);have cg:=hidR (ej.out.bel br);have aU:=hidR (show AB e6 ab _ _ _ _ from (br.block ab (zab cF.out)).trans cF.out);obtain ⟨⟨b0,b1,b2,b3⟩,z,fn⟩:=aU.out.facts;have z2:=z 2;clear z br dT du ej cF ei;go_upto_region 39 with fail
      refine zoY aU.out ?_;intro wx U G;have aD:=hidR (ce.out.turned G af EN.out);have bJ:=hidR (ci.out.turned G AN.out aU.out);have aj:=hidR (cg.out.turned G au ad);have aP:=hidR U;have bI:=hidR (cO.out.qs aj.out (fun k hk=>by cases hk));clear G U b0 b1 b2 b3 z2 aU ce ci cg;go_wp2_with fail
      refine (zeJ K la.tail m g bq wL.heap.size (.string nm) (.int .i64 sal) (.slice pa L.length pc) (.slice aa Ys.length ac) ka kn kc aA aV a1 c1 ah wx aj.out.rdr aD.out bI.out aj.out.rest.size b6 bW (by omega)).mono ?_;rintro e w7 ⟨ao,co,zs,a7,c7,cu,eI,rfl,aI,ap,⟨ay,bb,cY,bc,bw⟩,aE,df,dd⟩;have ak:=hidR (show AB w7 ab (.int .i64 1) (.int .i64 0) (.string cl) (.slice none 0 0) from (aE.block ab (zab aP.out) (by omega) af EN.out).trans aP.out);have bl:=hidR ap;have bf:=hidR (zaO aI (base':=wL.heap.size) (by have:=aj.out.rest.size;omega));clear aI;have bD:=hidR (bJ.out.qs aE ad aV (fun k hk=>zaA aD.out.2.1 hk));have aO:=hidR (aj.out.trans aE (.inr fun k hk=>(aD.out.2.1.lt k hk).1));have cI:(Value.slice a7 cu.length c7).ownBlock≠some ab:=fun e=>by
       obtain ⟨cc,cz⟩:=zaA ap.2.1 e;exact zcM cz ak.out (by decide)
      have eP:=aO.out.rest.size;obtain ⟨⟨g0,g1,g2,g3⟩,z,dJ⟩:=ak.out.facts;have cC:=z 3;clear z ap aE df aP aD bJ aj bI;go_upto_region 49 with fail
      refine zkX ak.out ?_;intro wt U G;have cL:=hidR (zcY bf.out (T:=[3]) (Same.kept (fun k hk _=>G.block k hk) ak.out (by decide)) (by decide));have ae:=hidR (bl.out.turned G af cI);have Z:=hidR (bD.out.turned G AN.out ak.out);have aw:=hidR (aO.out.turned G au ad);have aN:=hidR U;clear G U g0 g1 g2 g3 cC ak bl bD aO bf;obtain ⟨⟨b0,b1,b2,b3⟩,z,aX⟩:=aN.out.facts;clear z;have bn:bq<wt.heap.size:=zab ae.out.1;have dm:wt.cell? ⟨bq,4,none⟩=some (.slice aa Ys.length ac):=by simp[World.cell?,ae.out.1]
      have O:=zHA wt;have aR:=hidR (fun o k hk=>zaA (Z.out.bel (O.out o)).1 (k:=k) hk);have cQ:=aw.out.rest.size;go_wp2_with (first | (at_builtin;refine zag (by rfl) (.tmp 157) (.tmp 159) 37 (by rfl) wL.heap.size 73 _ 4 56 Tryz.underlying37 zi1 (by rfl) (by omega) _ Ys.length _ (by rfl) ((Z.out.bel (O.out _)).1) (some ⟨_,0,none⟩) 1 1 (by rfl) ([(.int .i64 1),(.int .i64 0),(.string cl),(.slice ao zs.length co)]) (by rfl) (fun e=>by cases e) (zas _ _ _ _ (by simp)) (by intro u hu;simp at hu;rcases hu with rfl | rfl | rfl | rfl;exact rfl;exact rfl;exact rfl;exact rfl) (by unfold maxLen;omega) (by omega) (by simp;omega) ?_;intro a9 c9 w9 ax X bp;have E:=hidR (QB.grown (t:=73) (ae.out.bel (O.out _)) X.out (aR.out _) (by decide) (by decide));have cG:w9.cell? ⟨bq,4,none⟩=some (.slice aa Ys.length ac):=(by simp[World.cell?,E.out.1]);have cD:w9.frozen? ⟨bq,4,none⟩=false:=(by simp[World.frozen?,E.out.1])) | fail);go_roundw
      case rel=>
       have az:=AcO.snoc (x:=((⟨1,0,cl,zs⟩:Ac),(.slice ao zs.length co))) (Z.out.bel (O.out _)) (show AcP _ _ ((⟨1,0,cl,zs⟩:Ac),(.slice ao zs.length co)) from ⟨⟨_,_,rfl⟩,zao cL.out (O.out _)⟩) ax.out X.out;refine ⟨j - 1,Ys ++ [((⟨1,0,cl,zs⟩:Ac),(.slice ao zs.length co))],(zcm K ah la.tail).2.2,?_,by simp;have:=HJ.out;omega,⟨a9,c9,a7,c7,_,_,⟨?_,zdO E.out.2.1 E.out.1 (by decide),E.out.2.2⟩,(by have:=zgv (v:=(.slice ao zs.length co)) bk.out (zr7 e8 cY) bb (ay ▸ bc) (ay ▸ bw) (by omega) bK;rw[<- ay]at this;exact this),az.same (T:=[73,3]) (Same.kept (fun k hk _=>Below.heap_setCell _ _ _ _ hk) E.out.1 (by decide)) (by decide) (by decide),(by show AFs _ _ _ _ _ _ _ _;rw[List.map_append];exact AFs.step bG.out (by omega) (zod bR.out (by have:=H8.out;omega) aB.out dd.out))⟩,((aw.out.bel (O.out _)).grown X.out (fun k hk=>(Z.out.1.lt k hk).1) ad).setQ aA⟩
       ·rw[show ((j - 1:Nat):Int)=(j:Int) - 1 by omega]
       ·have:=zap (i:=4) E.out.1 (.slice a9 (Ys.length+1) c9);simpa using this
      case measure=>(simp[intOf];omega)
    ·clear b4;rcases h8 with h8 | h8
     all_goals
      have H8:=hidR h8;have hI:=mod8 h8;clear h8;go_upto_region 49 with fail
      refine zjZ (fun z=>(1<=z/\z<=(pos:Int))/\Hid (z=1+((n4 / 8 % pos:Nat):Int))) ag.out d5.out ?_;intro wt z ⟨hz,hzN⟩ U G;have ae:=hidR (aJ.out.turned G af EN.out);have Z:=hidR (aH.out.turned G AN.out ag.out);have aw:=hidR (aF.out.turned G au ad);have aN:=hidR U;clear G U b0 b1 b2 b3 z0 z1 z2 z3 ag aJ aH aF;obtain ⟨⟨b0,b1,b2,b3⟩,z,aX⟩:=aN.out.facts;clear z;have bn:bq<wt.heap.size:=zab ae.out.1;have dm:wt.cell? ⟨bq,4,none⟩=some (.slice aa Ys.length ac):=by simp[World.cell?,ae.out.1]
      have O:=zHA wt;have aR:=hidR (fun o k hk=>zaA (Z.out.bel (O.out o)).1 (k:=k) hk);have cQ:=aw.out.rest.size;go_wp2_with (first | (at_builtin;refine zag (by rfl) (.tmp 157) (.tmp 159) 37 (by rfl) wL.heap.size 73 _ 4 56 Tryz.underlying37 zi1 (by rfl) (by omega) _ Ys.length _ (by rfl) ((Z.out.bel (O.out _)).1) (some ⟨_,0,none⟩) 1 1 (by rfl) ([(.int .i64 2),(.int .i64 z),(.string ⟨#[]⟩),(.slice none 0 0)]) (by rfl) (fun e=>by cases e) (zas _ _ _ _ (by simp)) (by intro u hu;simp at hu;rcases hu with rfl | rfl | rfl | rfl;exact rfl;exact rfl;exact rfl;exact rfl) (by unfold maxLen;omega) (by omega) (by simp;omega) ?_;intro a9 c9 w9 ax X bp;have E:=hidR (QB.grown (t:=73) (ae.out.bel (O.out _)) X.out (aR.out _) (by decide) (by decide));have cG:w9.cell? ⟨bq,4,none⟩=some (.slice aa Ys.length ac):=(by simp[World.cell?,E.out.1]);have cD:w9.frozen? ⟨bq,4,none⟩=false:=(by simp[World.frozen?,E.out.1])) | fail);go_roundw
      case rel=>
       have az:=AcO.snoc (x:=((⟨2,z,⟨#[]⟩,[]⟩:Ac),(.slice none 0 0))) (Z.out.bel (O.out _)) (show AcP _ _ ((⟨2,z,⟨#[]⟩,[]⟩:Ac),(.slice none 0 0)) from ⟨⟨_,_,rfl⟩,zao (World.ownsRow_nil _ _ _ _) (O.out _)⟩) ax.out X.out;refine ⟨j - 1,Ys ++ [((⟨2,z,⟨#[]⟩,[]⟩:Ac),(.slice none 0 0))],la.tail,?_,by simp;have:=HJ.out;omega,⟨a9,c9,a1,c1,_,_,⟨?_,zdO E.out.2.1 E.out.1 (by decide),E.out.2.2⟩,(by have:=zgv (v:=(.slice none 0 0)) (m':=m) bk.out (zrr hz cK) (ys:=[]) rfl (by simpa using b6) (by simpa using bW) (by omega) bK;simpa using this),az.same (T:=[73,3]) (Same.kept (fun k hk _=>Below.heap_setCell _ _ _ _ hk) E.out.1 (by decide)) (by decide) (by decide),(by show AFs _ _ _ _ _ _ _ _;rw[List.map_append];exact AFs.step bG.out (by omega) (zk5 bR.out (by have:=H8.out;omega) hzN.out))⟩,((aw.out.bel (O.out _)).grown X.out (fun k hk=>(Z.out.1.lt k hk).1) ad).setQ aA⟩
       ·rw[show ((j - 1:Nat):Int)=(j:Int) - 1 by omega]
       ·have:=zap (i:=4) E.out.1 (.slice a9 (Ys.length+1) c9);simpa using this
      case measure=>(simp[intOf];omega)
    ·clear b4;rcases h8 with h8 | h8
     all_goals
      have H8:=hidR h8;have hI:=mod8 h8;clear h8;go_upto_region 48 with fail
      refine zjZ (fun z=>(1<=z/\z<=(pos:Int))/\Hid (z=1+((n4 / 8 % pos:Nat):Int))) ag.out d5.out ?_;intro wx z ⟨hz,hzN⟩ U G;have aD:=hidR (aJ.out.turned G af EN.out);have bJ:=hidR (aH.out.turned G AN.out ag.out);have aj:=hidR (aF.out.turned G au ad);have aP:=hidR U;have bI:=hidR (cO.out.qs aj.out (fun k hk=>by cases hk));clear G U b0 b1 b2 b3 z0 z1 z2 z3 ag aJ aH aF dN;go_wp2_with fail
      refine (zeJ K la.tail m g bq wL.heap.size (.string nm) (.int .i64 sal) (.slice pa L.length pc) (.slice aa Ys.length ac) ka kn kc aA aV a1 c1 ah wx aj.out.rdr aD.out bI.out aj.out.rest.size b6 bW (by omega)).mono ?_;rintro e w7 ⟨ao,co,zs,a7,c7,cu,eI,rfl,aI,ap,⟨ay,bb,cY,bc,bw⟩,aE,df,dd⟩;have ak:=hidR (show AB w7 ab (.int .i64 3) (.int .i64 z) (.string ⟨#[]⟩) (.slice none 0 0) from (aE.block ab (zab aP.out) (by omega) af EN.out).trans aP.out);have bl:=hidR ap;have bf:=hidR (zaO aI (base':=wL.heap.size) (by have:=aj.out.rest.size;omega));clear aI;have bD:=hidR (bJ.out.qs aE ad aV (fun k hk=>zaA aD.out.2.1 hk));have aO:=hidR (aj.out.trans aE (.inr fun k hk=>(aD.out.2.1.lt k hk).1));have cI:(Value.slice a7 cu.length c7).ownBlock≠some ab:=fun e=>by
       obtain ⟨cc,cz⟩:=zaA ap.2.1 e;exact zcM cz ak.out (by decide)
      have eP:=aO.out.rest.size;obtain ⟨⟨g0,g1,g2,g3⟩,z,dJ⟩:=ak.out.facts;have cC:=z 3;clear z ap aE df aP aD bJ aj bI;go_upto_region 49 with fail
      refine zkX ak.out ?_;intro wt U G;have cL:=hidR (zcY bf.out (T:=[3]) (Same.kept (fun k hk _=>G.block k hk) ak.out (by decide)) (by decide));have ae:=hidR (bl.out.turned G af cI);have Z:=hidR (bD.out.turned G AN.out ak.out);have aw:=hidR (aO.out.turned G au ad);have aN:=hidR U;clear G U g0 g1 g2 g3 cC ak bl bD aO bf;obtain ⟨⟨b0,b1,b2,b3⟩,z,aX⟩:=aN.out.facts;clear z;have bn:bq<wt.heap.size:=zab ae.out.1;have dm:wt.cell? ⟨bq,4,none⟩=some (.slice aa Ys.length ac):=by simp[World.cell?,ae.out.1]
      have O:=zHA wt;have aR:=hidR (fun o k hk=>zaA (Z.out.bel (O.out o)).1 (k:=k) hk);have cQ:=aw.out.rest.size;go_wp2_with (first | (at_builtin;refine zag (by rfl) (.tmp 157) (.tmp 159) 37 (by rfl) wL.heap.size 73 _ 4 56 Tryz.underlying37 zi1 (by rfl) (by omega) _ Ys.length _ (by rfl) ((Z.out.bel (O.out _)).1) (some ⟨_,0,none⟩) 1 1 (by rfl) ([(.int .i64 3),(.int .i64 z),(.string ⟨#[]⟩),(.slice ao zs.length co)]) (by rfl) (fun e=>by cases e) (zas _ _ _ _ (by simp)) (by intro u hu;simp at hu;rcases hu with rfl | rfl | rfl | rfl;exact rfl;exact rfl;exact rfl;exact rfl) (by unfold maxLen;omega) (by omega) (by simp;omega) ?_;intro a9 c9 w9 ax X bp;have E:=hidR (QB.grown (t:=73) (ae.out.bel (O.out _)) X.out (aR.out _) (by decide) (by decide));have cG:w9.cell? ⟨bq,4,none⟩=some (.slice aa Ys.length ac):=(by simp[World.cell?,E.out.1]);have cD:w9.frozen? ⟨bq,4,none⟩=false:=(by simp[World.frozen?,E.out.1])) | fail);go_roundw
      case rel=>
       have az:=AcO.snoc (x:=((⟨3,z,⟨#[]⟩,zs⟩:Ac),(.slice ao zs.length co))) (Z.out.bel (O.out _)) (show AcP _ _ ((⟨3,z,⟨#[]⟩,zs⟩:Ac),(.slice ao zs.length co)) from ⟨⟨_,_,rfl⟩,zao cL.out (O.out _)⟩) ax.out X.out;refine ⟨j - 1,Ys ++ [((⟨3,z,⟨#[]⟩,zs⟩:Ac),(.slice ao zs.length co))],(zcm K ah la.tail).2.2,?_,by simp;have:=HJ.out;omega,⟨a9,c9,a7,c7,_,_,⟨?_,zdO E.out.2.1 E.out.1 (by decide),E.out.2.2⟩,(by have:=zgv (v:=(.slice ao zs.length co)) bk.out (zrR hz cK cY) bb (ay ▸ bc) (ay ▸ bw) (by omega) bK;rw[<- ay]at this;exact this),az.same (T:=[73,3]) (Same.kept (fun k hk _=>Below.heap_setCell _ _ _ _ hk) E.out.1 (by decide)) (by decide) (by decide),(by show AFs _ _ _ _ _ _ _ _;rw[List.map_append];exact AFs.step bG.out (by omega) (zm5 bR.out (by have:=H8.out;omega) hzN.out dd.out))⟩,((aw.out.bel (O.out _)).grown X.out (fun k hk=>(Z.out.1.lt k hk).1) ad).setQ aA⟩
       ·rw[show ((j - 1:Nat):Int)=(j:Int) - 1 by omega]
       ·have:=zap (i:=4) E.out.1 (.slice a9 (Ys.length+1) c9);simpa using this
      case measure=>(simp[intOf];omega)
    clear b4;have H8:=hidR h8;have hI:=mod8 h8;clear h8;go_upto_region 49 with fail
    refine zlz ag.out ?_;intro wt U G;have ae:=hidR (aJ.out.turned G af EN.out);have Z:=hidR (aH.out.turned G AN.out ag.out);have aw:=hidR (aF.out.turned G au ad);have aN:=hidR U;clear G U b0 b1 b2 b3 z0 z1 z2 z3 ag aJ aH aF;obtain ⟨⟨b0,b1,b2,b3⟩,z,aX⟩:=aN.out.facts;clear z;have bn:bq<wt.heap.size:=zab ae.out.1;have dm:wt.cell? ⟨bq,4,none⟩=some (.slice aa Ys.length ac):=by simp[World.cell?,ae.out.1]
    have O:=zHA wt;have aR:=hidR (fun o k hk=>zaA (Z.out.bel (O.out o)).1 (k:=k) hk);have cQ:=aw.out.rest.size;go_wp2_with (first | (at_builtin;refine zag (by rfl) (.tmp 157) (.tmp 159) 37 (by rfl) wL.heap.size 73 _ 4 56 Tryz.underlying37 zi1 (by rfl) (by omega) _ Ys.length _ (by rfl) ((Z.out.bel (O.out _)).1) (some ⟨_,0,none⟩) 1 1 (by rfl) ([(.int .i64 4),(.int .i64 0),(.string ⟨#[]⟩),(.slice none 0 0)]) (by rfl) (fun e=>by cases e) (zas _ _ _ _ (by simp)) (by intro u hu;simp at hu;rcases hu with rfl | rfl | rfl | rfl;exact rfl;exact rfl;exact rfl;exact rfl) (by unfold maxLen;omega) (by omega) (by simp;omega) ?_;intro a9 c9 w9 ax X bp;have E:=hidR (QB.grown (t:=73) (ae.out.bel (O.out _)) X.out (aR.out _) (by decide) (by decide));have cG:w9.cell? ⟨bq,4,none⟩=some (.slice aa Ys.length ac):=(by simp[World.cell?,E.out.1]);have cD:w9.frozen? ⟨bq,4,none⟩=false:=(by simp[World.frozen?,E.out.1])) | fail);go_roundw
    case rel=>
     have az:=AcO.snoc (x:=((⟨4,0,⟨#[]⟩,[]⟩:Ac),(.slice none 0 0))) (Z.out.bel (O.out _)) (show AcP _ _ ((⟨4,0,⟨#[]⟩,[]⟩:Ac),(.slice none 0 0)) from ⟨⟨_,_,rfl⟩,zao (World.ownsRow_nil _ _ _ _) (O.out _)⟩) ax.out X.out;refine ⟨j - 1,Ys ++ [((⟨4,0,⟨#[]⟩,[]⟩:Ac),(.slice none 0 0))],la.tail,?_,by simp;have:=HJ.out;omega,⟨a9,c9,a1,c1,_,_,⟨?_,zdO E.out.2.1 E.out.1 (by decide),E.out.2.2⟩,(by have:=zgv (v:=(.slice none 0 0)) (m':=m) bk.out (zrq pos) (ys:=[]) rfl (by simpa using b6) (by simpa using bW) (by omega) bK;simpa using this),az.same (T:=[73,3]) (Same.kept (fun k hk _=>Below.heap_setCell _ _ _ _ hk) E.out.1 (by decide)) (by decide) (by decide),(by show AFs _ _ _ _ _ _ _ _;rw[List.map_append];exact AFs.step bG.out (by omega) (zkS bR.out H8.out))⟩,((aw.out.bel (O.out _)).grown X.out (fun k hk=>(Z.out.1.lt k hk).1) ad).setQ aA⟩
     ·rw[show ((j - 1:Nat):Int)=(j:Int) - 1 by omega]
     ·have:=zap (i:=4) E.out.1 (.slice a9 (Ys.length+1) c9);simpa using this
    case measure=>(simp[intOf];omega)
end Go.Proofs.YtjjjagepnnbebaaGreatDoor
namespace Go.Proofs.YtjjjagepnnbebaaGreatDoor
open Go.RowKit
def MOk(M:List RuX):Prop:=∀ i x,M[i]?=some x->DRu i x.ru /\ -9223372036854775808<=x.sal/\x.sal<=9223372036854775807
theorem MOk.snoc{M:List RuX}{x:RuX}(h:MOk M)(hx:DRu M.length x.ru)(hs:-9223372036854775808<=x.sal/\x.sal<=9223372036854775807):MOk (M ++ [x]):=by
 intro i y hy;by_cases hi:i<M.length
 ·rw[List.getElem?_append_left hi]at hy;exact h i y hy
 have E:=(List.getElem?_eq_some_iff.1 hy).1;simp at E;obtain rfl:i=M.length:=by omega
 simp at hy;subst hy;exact ⟨hx,hs⟩
theorem RuP.slices{w:World}{base:Nat}{x:RuX}(h:RuP w base x):(∃ a n c,x.pv=.slice a n c)/\(∃ a n c,x.ev=.slice a n c)/\∃ a n c,x.av=.slice a n c:=by
 obtain ⟨⟨a,c,e,_⟩,⟨a2,c2,e2,_⟩,a3,c3,e3,_⟩:=h;exact ⟨⟨a,_,c,e⟩,⟨a2,_,c2,e2⟩,a3,_,c3,e3⟩
end Go.Proofs.YtjjjagepnnbebaaGreatDoor
