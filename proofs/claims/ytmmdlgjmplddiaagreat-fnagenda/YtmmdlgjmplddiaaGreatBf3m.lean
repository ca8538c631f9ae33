/-
  OUR OWN TEXT. Before: the program's side.
-/
import Derived.Test.YtmmdlgjmplddiaaGreatKaz
import Derived.Test.YtmmdlgjmplddiaaGreatKas
import Derived.Test.YtmmdlgjmplddiaaGreatSym
import Derived.Test.YtmmdlgjmplddiaaGreatKaj
import Derived.BigQuiet
namespace Go.Proofs.YtmmdlgjmplddiaaGreat
open Go.RowKit
attribute [local go_sem ↓] Go.wp_at_zero Go.wp_at_succ
set_option maxHeartbeats 800000 in
theorem zel (rs:List Ru) (a:Option Addr) (c:Nat) (x:In) (at':Option Addr) (ct:Nat) (w:World) (hl:rs.length≤1048576) (ht:x.tags.length≤1048576) :
  Calls Tryz.prog 39 #[.agg #[.int .i64 x.rule,.slice at' x.tags.length ct],.slice a rs.length c] w fun e w'=>e=.returned (.bool (zaJ rs x))∧Below w.heap.size w w':=by
 have HP:Hid (zaJ rs x=(decide (0≤x.rule) && (decide (x.rule<(rs.length:Int)) && decide (x.tags.length≤3)))):=rfl
 have B0:∀ o,Below w.heap.size w (w.alloc o):=fun o=>(Below.refl _ _).alloc (Nat.le_refl _) _
 by_cases h1:0≤x.rule <;> by_cases h2:x.rule<(rs.length:Int) <;> by_cases h3:x.tags.length≤3
 all_goals
  first
  | (exfalso;omega;done)
  | (go_enter Tryz.func39,Tryz.ntmps39
     go_wp2
     go_ret
     exact ⟨zac (by rw [HP.out];first | (simp [h1,h2,h3];done) | (simp [h1,h2,h3];omega)),B0 _⟩)
theorem zjy (w:World) (xs:List Int) (ty:TypeId):zas none (w.alloc (.cells (xs.map (Value.int .i64)).toArray ty)) (some ⟨w.heap.size,0,none⟩) xs:=by
 intro i s hs
 refine ⟨w.heap.size,0,[.int .i64 s],rfl,Qb.bare _ _ _,rfl,?_,rfl⟩
 intro j v hj
 have hj0:j=0:=by
  have:=(List.getElem?_eq_some_iff.1 hj).1
  simp at this
  exact this
 subst hj0
 simp at hj
 subst hj
 simp [hs]
theorem zl5 (w:World) (g:Nat) (r1 r2:Int) (ty:TypeId) (hg:g=w.heap.size):zas none (w.alloc (.cells #[.int .i64 r1,.int .i64 r2] ty)) (some ⟨g,0,none⟩) [r1,r2]:=by
 subst hg
 exact zjy w [r1,r2] ty
theorem zlI (w:World) (g:Nat) (r1 r2 r3:Int) (ty:TypeId) (hg:g=w.heap.size):zas none (w.alloc (.cells #[.int .i64 r1,.int .i64 r2,.int .i64 r3] ty)) (some ⟨g,0,none⟩) [r1,r2,r3]:=by
 subst hg
 exact zjy w [r1,r2,r3] ty
set_option maxRecDepth 100000 in
set_option maxHeartbeats 1600000 in
theorem ziM (x y:In) (a b:Option Addr) (c d:Nat) (w:World) {q q':Option Nat} (hx:zas q w a x.tags) (hy:zas q' w b y.tags) (hl:x.tags.length≤1048576) (hl':y.tags.length≤1048576) :
  Calls Tryz.prog 80 #[.agg #[.int .i64 x.rule,.slice a x.tags.length c],.agg #[.int .i64 y.rule,.slice b y.tags.length d]] w fun e w'=>
   e=.returned (.int .i64 (orI [Lib.compareInt x.rule y.rule,lexC x.tags y.tags]))∧Below w.heap.size w w':=by
 have B2:∀ o o',Below w.heap.size w (((w.alloc o).alloc o').drew):=fun o o'=>(((Below.refl _ _).alloc (Nat.le_refl _) _).alloc (by simp) _).drew
 have HX:=hidB (fun o o'=>hx.below (B2 o o'))
 have HY:=hidB (fun o o'=>hy.below (B2 o o'))
 have HC:=hidB (zjT x.rule y.rule)
 obtain ⟨r1,hr1⟩:∃ r,Lib.compareInt x.rule y.rule=r:=⟨_,rfl⟩
 obtain ⟨r2,hr2⟩:∃ r,lexC x.tags y.tags=r:=⟨_,rfl⟩
 have HL:=hidB (fun w' (h1:zas q w' a x.tags) (h2:zas q' w' b y.tags)=>zfV a b c d x.tags y.tags w' h1 h2 hl hl')
 have HO:=hidB (fun w' g ty (hg:g=w'.heap.size)=>(show Calls Tryz.prog 77 #[.slice (some ⟨g,0,none⟩) 2 2] ((w'.alloc (.cells #[.int .i64 r1,.int .i64 r2] ty)).drew) _ from znU (some ⟨g,0,none⟩) 2 [r1,r2] _ ((zl5 w' g r1 r2 ty hg).below ((Below.refl _ _).drew)) (by simp)))
 rw [hr1] at HC ⊢
 rw [hr2] at HL ⊢
 clear hr1 hr2 hx hy
 go_enter Tryz.func80,Tryz.ntmps80
 go_wp2
 refine wp_region_noPanic ?_
 refine wp_region_held_drew (S:=(fun w'=>w'.cell? ⟨w.heap.size,0,none⟩=some (.int .i64 x.rule)∧w'.cell? ⟨w.heap.size,1,none⟩=some (.slice a x.tags.length c)∧w'.cell? ⟨w.heap.size+1,0,none⟩=some (.int .i64 y.rule)∧w'.cell? ⟨w.heap.size+1,1,none⟩=some (.slice b y.tags.length d))) (by kernel_rfl) ?_ (fun hHeld=>?_)
 ·(try dsimp only)
  (go_split_ands;refine ⟨?_,?_,?_,?_⟩ <;> first | (simp [*];done))
 refine wpAnyH_take (i:=0) (oi:=?oi1) (v:=?v1) ?hi1 (by kernel_rfl) (by kernel_rfl) (by kernel_rfl) (fun _ _ _ h=>h) (Or.inl ⟨?wd1,?hy1⟩) hHeld ?rest1
 case hi1=>(simp only [List.getElem?_toArray,List.getElem?_cons_zero];rfl)
 case wd1=>rfl
 case hy1=>(intro w hSw;(try dsimp only at hSw);go_simp;try with_reducible rfl)
 (try simp only [Act.put,List.setIfInBounds_toArray,List.set_cons_zero,List.set_cons_succ])
 refine wpAnyH_take (i:=1) (oi:=?oi2) (v:=?v2) ?hi2 (by kernel_rfl) (by kernel_rfl) (by kernel_rfl) (fun _ _ _ h=>h) (Or.inl ⟨?wd2,?hy2⟩) hHeld ?rest2
 case hi2=>(simp only [List.getElem?_toArray,List.getElem?_cons_succ,List.getElem?_cons_zero];rfl)
 case wd2=>rfl
 case hy2=>(intro w hSw;(try dsimp only at hSw);go_simp;try with_reducible rfl)
 (try simp only [Act.put,List.setIfInBounds_toArray,List.set_cons_zero,List.set_cons_succ])
 refine wpAnyH_take (i:=2) (oi:=?oi3) (v:=?v3) ?hi3 (by kernel_rfl) (by kernel_rfl) (by kernel_rfl) (fun _ _ _ h=>h) (Or.inl ⟨?wd3,?hy3⟩) hHeld ?rest3
 case hi3=>(simp only [List.getElem?_toArray,List.getElem?_cons_succ,List.getElem?_cons_zero];rfl)
 case wd3=>rfl
 case hy3=>(intro w hSw;(try dsimp only at hSw);go_simp;try with_reducible rfl)
 (try simp only [Act.put,List.setIfInBounds_toArray,List.set_cons_zero,List.set_cons_succ])
 refine wpAnyH_take (i:=3) (oi:=?oi4) (v:=?v4) ?hi4 (by kernel_rfl) (by kernel_rfl) (by kernel_rfl) (fun _ _ _ h=>h) (Or.inl ⟨?wd4,?hy4⟩) hHeld ?rest4
 case hi4=>(simp only [List.getElem?_toArray,List.getElem?_cons_succ,List.getElem?_cons_zero];rfl)
 case wd4=>rfl
 case hy4=>(intro w hSw;(try dsimp only at hSw);go_simp;try with_reducible rfl)
 (try simp only [Act.put,List.setIfInBounds_toArray,List.set_cons_zero,List.set_cons_succ])
 refine wpAnyH_take (i:=5) (oi:=?oi5) (v:=?v5) ?hi5 (by kernel_rfl) (by kernel_rfl) (by kernel_rfl) (fun _ _ _ h=>h) (Or.inl ⟨?wd5,?hy5⟩) hHeld ?rest5
 case hi5=>(simp only [List.getElem?_toArray,List.getElem?_cons_succ,List.getElem?_cons_zero];rfl)
 case wd5=>rfl
 case hy5=>(intro w hSw;(try dsimp only at hSw);go_simp;try with_reducible rfl)
 (try simp only [Act.put,List.setIfInBounds_toArray,List.set_cons_zero,List.set_cons_succ])
 refine wpAnyH_take (i:=6) (oi:=?oi6) (v:=?v6) ?hi6 (by kernel_rfl) (by kernel_rfl) (by kernel_rfl) (fun _ _ _ h=>h) (Or.inl ⟨?wd6,?hy6⟩) hHeld ?rest6
 case hi6=>(simp only [List.getElem?_toArray,List.getElem?_cons_succ,List.getElem?_cons_zero];rfl)
 case wd6=>rfl
 case hy6=>(intro w hSw;(try dsimp only at hSw);go_simp;try with_reducible rfl)
 (try simp only [Act.put,List.setIfInBounds_toArray,List.set_cons_zero,List.set_cons_succ])
 refine wpAnyH_take (i:=7) (oi:=?oi7) (v:=?v7) ?hi7 (by kernel_rfl) (by kernel_rfl) (by kernel_rfl) (fun _ _ _ h=>h) (Or.inl ⟨?wd7,?hy7⟩) hHeld ?rest7
 case hi7=>(simp only [List.getElem?_toArray,List.getElem?_cons_succ,List.getElem?_cons_zero];rfl)
 case wd7=>rfl
 case hy7=>(intro w hSw;(try dsimp only at hSw);go_simp;try with_reducible rfl)
 (try simp only [Act.put,List.setIfInBounds_toArray,List.set_cons_zero,List.set_cons_succ])
 refine wpAnyH_take (i:=8) (oi:=?oi8) (v:=?v8) ?hi8 (by kernel_rfl) (by kernel_rfl) (by kernel_rfl) (fun _ _ _ h=>h) (Or.inl ⟨?wd8,?hy8⟩) hHeld ?rest8
 case hi8=>(simp only [List.getElem?_toArray,List.getElem?_cons_succ,List.getElem?_cons_zero];rfl)
 case wd8=>rfl
 case hy8=>(intro w hSw;(try dsimp only at hSw);go_simp;try with_reducible rfl)
 (try simp only [Act.put,List.setIfInBounds_toArray,List.set_cons_zero,List.set_cons_succ])
 refine wpAnyH_ready (rs:=[4]) (by kernel_rfl) (by simp) ?_
 refine AllReadyH.cons (o:=?o9) ?ho9 (fun K hK=>?step9) AllReadyH.nil
 case ho9=>(simp only [List.getElem?_toArray,List.getElem?_cons_succ,List.getElem?_cons_zero];rfl)
 go_simp
 (go_at_call 113;refine (HC.out _).mono ?_;rintro e w1 ⟨rfl,rfl⟩)
 (try go_wp2_with fail)
 refine hK.out _ _ ?hS10 (fun hHeld'=>?rest10)
 case hS10=>((try dsimp only);(go_split_ands;refine ⟨?_,?_,?_,?_⟩ <;> first | assumption))
 clear hK K
 (try simp only [Act.put,List.setIfInBounds_toArray,List.set_cons_zero,List.set_cons_succ])
 clear hHeld
 have hHeld:=hHeld'
 clear hHeld'
 refine wpAnyH_ready (rs:=[9]) (by kernel_rfl) (by simp) ?_
 refine AllReadyH.cons (o:=?o11) ?ho11 (fun K hK=>?step11) AllReadyH.nil
 case ho11=>(simp only [List.getElem?_toArray,List.getElem?_cons_succ,List.getElem?_cons_zero];rfl)
 go_simp
 (go_at_call 79;refine (HL.out _ (HX.out _ _) (HY.out _ _)).mono ?_;rintro e w2 ⟨rfl,rfl⟩)
 (try go_wp2_with fail)
 refine hK.out _ _ ?hS12 (fun hHeld'=>?rest12)
 case hS12=>((try dsimp only);(go_split_ands;refine ⟨?_,?_,?_,?_⟩ <;> first | assumption))
 clear hK K
 (try simp only [Act.put,List.setIfInBounds_toArray,List.set_cons_zero,List.set_cons_succ])
 clear hHeld
 have hHeld:=hHeld'
 clear hHeld'
 refine wpAnyH_ready (rs:=[10]) (by kernel_rfl) (by simp) ?_
 refine AllReadyH.cons (o:=?o13) ?ho13 (fun K hK=>?step13) AllReadyH.nil
 case ho13=>(simp only [List.getElem?_toArray,List.getElem?_cons_succ,List.getElem?_cons_zero];rfl)
 go_simp
 refine hK.out _ _ ?hS14 (fun hHeld'=>?rest14)
 case hS14=>((try dsimp only);(go_split_ands;refine ⟨?_,?_,?_,?_⟩ <;> first | exact zaa ((Below.refl _ _).alloc (Nat.le_refl _) _) (by assumption)))
 clear hK K
 (try simp only [Act.put,List.setIfInBounds_toArray,List.set_cons_zero,List.set_cons_succ])
 clear hHeld
 have hHeld:=hHeld'
 clear hHeld'
 refine wpAnyH_ready (rs:=[11]) (by kernel_rfl) (by simp) ?_
 refine AllReadyH.cons (o:=?o15) ?ho15 (fun K hK=>?step15) AllReadyH.nil
 case ho15=>(simp only [List.getElem?_toArray,List.getElem?_cons_succ,List.getElem?_cons_zero];rfl)
 go_simp
 (go_at_call 77;refine (HO.out _ _ _ (by simp)).mono ?_;rintro e w3 ⟨rfl,rfl⟩)
 (try go_wp2_with fail)
 refine hK.out _ _ ?hS16 (fun hHeld'=>?rest16)
 case hS16=>((try dsimp only);(go_split_ands;refine ⟨?_,?_,?_,?_⟩ <;> first | assumption))
 clear hK K
 (try simp only [Act.put,List.setIfInBounds_toArray,List.set_cons_zero,List.set_cons_succ])
 clear hHeld
 have hHeld:=hHeld'
 clear hHeld'
 refine wpAnyH_take (i:=12) (oi:=?oi17) (v:=?v17) ?hi17 (by kernel_rfl) (by kernel_rfl) (by kernel_rfl) (fun _ _ _ h=>h) (Or.inl ⟨?wd17,?hy17⟩) hHeld ?rest17
 case hi17=>(simp only [List.getElem?_toArray,List.getElem?_cons_succ,List.getElem?_cons_zero];rfl)
 case wd17=>rfl
 case hy17=>(intro w hSw;(try dsimp only at hSw);go_simp;try with_reducible rfl)
 (try simp only [Act.put,List.setIfInBounds_toArray,List.set_cons_zero,List.set_cons_succ])
 refine wpAnyH_done (by kernel_rfl) ?_ _
 refine NoPanic.normal ?_
 go_wp2
 go_ret
 exact ⟨rfl,((B2 _ _).alloc (B2 _ _).size _)⟩
theorem zgj (b o c:Nat) (xs:List Int) (w:World) {q:Option Nat} (hv:zas q w (some ⟨b,o,none⟩) xs) (hl:xs.length≤1048576) :
  Calls Tryz.prog 74 #[.slice (some ⟨b,o,none⟩) xs.length c] w fun e w'=>(∃ a' c',e=.returned (.slice a' xs.length c')∧w'.ownsRow w.heap.size 3 1 (.slice a' xs.length c') xs.length (icells xs))∧Below w.heap.size w w':=by
 have hcl:=AnyG.slices_Clone_int Tryz.cloneI b o xs.length c xs w (Nat.le_refl _) (by omega) (fun j hj=>by
  have hx:xs[j]?=some (xs.getD j 0):=by simp [List.getD,List.getElem?_eq_getElem hj]
  obtain ⟨b',o',e,_,hc⟩:=hv.get hx
  simp only [Option.some.injEq,Addr.mk.injEq,and_true] at e
  obtain ⟨rfl,rfl⟩:=e
  exact hc)
 change Calls Tryz.prog 74 _ _ _ at hcl
 refine hcl.mono ?_
 rintro e w1 ⟨v1,rfl,ho1,hnn,hb1⟩
 rw [List.take_of_length_le (Nat.le_refl _)] at ho1
 have hsh:∃ a' c',v1=.slice a' xs.length c':=by
  rcases ho1.2 with ⟨hnil,h0⟩ | ⟨g,cap,cur,rfl,_⟩
  ·exact absurd hnil hnn
  ·exact ⟨_,_,rfl⟩
 obtain ⟨a',c',rfl⟩:=hsh
 exact ⟨⟨a',c',rfl,ho1⟩,hb1⟩
structure NE (w W:World) (G:Nat) (i:Int) (tv cv:Value) (a2:Option Addr) (ts:List Int):Prop where
 below:Below w.heap.size w W
 size:w.heap.size+1+1≤G∧G<W.heap.size
 b0:W.cell? ⟨w.heap.size,0,none⟩=some (.int .i64 i)
 b1:W.cell? ⟨w.heap.size,1,none⟩=some tv
 g0:W.cell? ⟨G,0,none⟩=some (.int .i64 i)
 g1:W.cell? ⟨G,1,none⟩=some cv
 p0:W.cell? ⟨w.heap.size+1,0,none⟩=some (.int .i64 0)
 p1:W.cell? ⟨w.heap.size+1,1,none⟩=some (.slice none 0 0)
 p2:W.cell? ⟨w.heap.size+1,2,none⟩=some (.int .i64 0)
 p3:W.cell? ⟨w.heap.size+1,3,none⟩=some (.slice none 0 0)
 n:∀ j,W.frozen? ⟨w.heap.size+1,j,none⟩=false
 ints:∃ c2,cv=.slice a2 ts.length c2∧W.ownsRow (w.heap.size+1+1) 3 1 cv ts.length (icells ts)
def enV (rs:List Ru) (x:In) (a1:Option Addr) (c1:Nat) (a2:Option Addr) (c2:Nat):Value:=.agg #[.int .i64 (zaZ rs x),.slice a1 (recA x.tags).length c1,.int .i64 x.rule,.slice a2 x.tags.length c2]
set_option maxRecDepth 100000 in
set_option maxHeartbeats 1600000 in
theorem zeF (rs:List Ru) (a:Option Addr) (c:Nat) (x:In) (bt ot ct:Nat) (w:World) {q q':Option Nat} (hv:zbR q w a rs) (ht:zas q' w (some ⟨bt,ot,none⟩) x.tags) (hp:zaJ rs x=true) (hl:rs.length≤1048576) :
  Calls Tryz.prog 41 #[.slice a rs.length c,.agg #[.int .i64 x.rule,.slice (some ⟨bt,ot,none⟩) x.tags.length ct]] w fun e w'=>
   (∃ a1 c1 a2 c2,e=.returned (enV rs x a1 c1 a2 c2)∧w'.ownsRow w.heap.size 3 1 (.slice a1 (recA x.tags).length c1) (recA x.tags).length (icells (recA x.tags))∧w'.ownsRow w.heap.size 3 1 (.slice a2 x.tags.length c2) x.tags.length (icells x.tags))∧Below w.heap.size w w':=by
 simp only [zaJ,Bool.and_eq_true,decide_eq_true_eq] at hp
 obtain ⟨hp1,hp2,hp3⟩:=hp
 obtain ⟨r,hr⟩:∃ r,rs[x.rule.toNat]?=some r:=⟨rs[x.rule.toNat]'(by omega),List.getElem?_eq_getElem _⟩
 obtain ⟨i,hi⟩:∃ i:Nat,x.rule=(i:Int):=⟨x.rule.toNat,by omega⟩
 have hsal:zaZ rs x=r.sal:=by unfold zaZ;rw [hr];rfl
 have hval:∀ a1 c1 a2 c2,enV rs x a1 c1 a2 c2=.agg #[.int .i64 r.sal,.slice a1 (recA x.tags).length c1,.int .i64 (i:Int),.slice a2 x.tags.length c2]:=fun a1 c1 a2 c2=>by unfold enV;rw [hsal,hi]
 have HVAL:=hidB hval
 rw [hi] at hr hp1 hp2 ⊢
 rw [Int.toNat_natCast] at hr
 obtain ⟨br,orr,_,_,_,_,_,_,rfl,_,_,dsal,_⟩:=hv.get hr
 have hltr:=World.block_lt_of_cell? w ⟨br,_,none⟩ dsal
 have hi':(i:Int)<(rs.length:Int):=hp2
 have B2:∀ o o',Below w.heap.size w (((w.alloc o).alloc o').drew):=fun o o'=>(((Below.refl _ _).alloc (Nat.le_refl _) _).alloc (by simp) _).drew
 have B3:∀ o o' o'',Below w.heap.size w ((((w.alloc o).alloc o').alloc o'').drew):=fun o o' o''=>((((Below.refl _ _).alloc (Nat.le_refl _) _).alloc (by simp) _).alloc (by simp;omega) _).drew
 have HC2:=hidB (fun o o'=>zgj bt ot ct x.tags _ (ht.below (B2 o o')) (by omega))
 have HC3:=hidB (fun o o' o''=>zgj bt ot ct x.tags _ (ht.below (B3 o o' o'')) (by omega))
 have DS:=hidB dsal
 have HT:=hidB ht
 have htl:x.tags.length≤1048576:=by omega
 clear hv ht hr hp1 hp3 hi hsal hval dsal
 go_enter Tryz.func41,Tryz.ntmps41
 go_wp2
 go_region_held3 (fun w'=>w'.cell? ⟨w.heap.size,0,none⟩=some (.int .i64 (i:Int))∧w'.cell? ⟨w.heap.size,1,none⟩=some (.slice (some ⟨bt,ot,none⟩) x.tags.length ct)) (first | (go_split_ands;(refine ⟨?_,?_⟩ <;> first | (simp [*];done) | with_reducible assumption | with_reducible exact zaa ((Below.refl _ _).alloc (Nat.le_refl _) _) (by assumption) | with_reducible exact zaa hb1 (by assumption) | (simp [go_sem, *];done));done) | go_keep)
  (first
   | (go_at_call 74;with_reducible refine (HC2.out _ _).mono ?_;rintro e w1 ⟨⟨a2,c2,rfl,i2⟩,hb1⟩;have hs1:w.heap.size+1+1≤w1.heap.size:=(by have:=hb1.size;simp at this;omega);have hn1:w.heap.size≠w1.heap.size:=(by omega);have hn2:w1.heap.size≠w.heap.size:=(by omega);have y0:w1.cell? ⟨w.heap.size,0,none⟩=some (.int .i64 (i:Int)):=zaa hb1 (by simp [go_sem]);have y1:w1.cell? ⟨w.heap.size,1,none⟩=some (.slice (some ⟨bt,ot,none⟩) x.tags.length ct):=zaa hb1 (by simp [go_sem]))
   | (go_at_call 74;with_reducible refine (HC3.out _ _ _).mono ?_;rintro e w1 ⟨⟨a2,c2,rfl,i2⟩,hb1⟩;have hs1:w.heap.size+1+1≤w1.heap.size:=(by have:=hb1.size;simp at this;omega);have hn1:w.heap.size≠w1.heap.size:=(by omega);have hn2:w1.heap.size≠w.heap.size:=(by omega);have y0:w1.cell? ⟨w.heap.size,0,none⟩=some (.int .i64 (i:Int)):=zaa hb1 (by simp [go_sem]);have y1:w1.cell? ⟨w.heap.size,1,none⟩=some (.slice (some ⟨bt,ot,none⟩) x.tags.length ct):=zaa hb1 (by simp [go_sem]);have z0:w1.cell? ⟨w.heap.size+1+1,0,none⟩=some (.int .i64 0):=zaa hb1 (by simp [go_sem]);have z1:w1.cell? ⟨w.heap.size+1+1,1,none⟩=some (.slice none 0 0):=zaa hb1 (by simp [go_sem]);have v0:w1.frozen? ⟨w.heap.size+1+1,0,none⟩=false:=(hb1.frozen (p:=⟨w.heap.size+1+1,0,none⟩) (by simp)).trans (by simp [go_sem]);have v1:w1.frozen? ⟨w.heap.size+1+1,1,none⟩=false:=(hb1.frozen (p:=⟨w.heap.size+1+1,1,none⟩) (by simp)).trans (by simp [go_sem]))
   | fail)
 case' refine_2.refine_3.refine_3.refine_3.refine_3.refine_1.refine_2.refine_3.refine_1.refine_2.refine_1.refine_2=>
  have NF:NE w (w1.alloc (Obj.cells #[Value.int IntKind.i64 ↑i,Value.slice a2 x.tags.length c2] 46)) w1.heap.size (i:Int) (.slice (some ⟨bt,ot,none⟩) x.tags.length ct) (.slice a2 x.tags.length c2) a2 x.tags:=
   ⟨((B2 _ _).trans (hb1.mono (by simp;omega))).alloc (by omega) _,⟨hs1,by simp⟩,zaa ((Below.refl _ _).alloc (Nat.le_refl _) _) y0,zaa ((Below.refl _ _).alloc (Nat.le_refl _) _) y1,by simp [go_sem],by simp [go_sem],
    zaa ((Below.refl _ _).alloc (Nat.le_refl _) _) (zaa hb1 (by simp [go_sem])),zaa ((Below.refl _ _).alloc (Nat.le_refl _) _) (zaa hb1 (by simp [go_sem])),zaa ((Below.refl _ _).alloc (Nat.le_refl _) _) (zaa hb1 (by simp [go_sem])),zaa ((Below.refl _ _).alloc (Nat.le_refl _) _) (zaa hb1 (by simp [go_sem])),
    fun j=>zcI ((Below.refl _ _).alloc (Nat.le_refl _) _) (by omega) (zcI hb1 (by simp) (by simp [go_sem])),⟨c2,rfl,zae (zan i2 (by simp)) (fun g hg=>Below.heap_alloc _ _ _ (i2.lt g hg).2)⟩⟩
  have NF':=hidB NF
  clear NF HC2 HC3 i2 hb1 y0 y1 hs1 hn1 hn2
  generalize w1.alloc (Obj.cells #[Value.int IntKind.i64 ↑i,Value.slice a2 x.tags.length c2] 46)=W at *
  generalize w1.heap.size=G at *
 case' refine_2.refine_3.refine_3.refine_3.refine_3.refine_2.refine_1.refine_2.refine_1.refine_2.refine_3.refine_1.refine_2=>
  have NF:NE w ((w1.setCell ⟨w.heap.size+1+1,0,none⟩ (.int .i64 (i:Int))).setCell ⟨w.heap.size+1+1,1,none⟩ (.slice a2 x.tags.length c2)) (w.heap.size+1+1) (i:Int) (.slice (some ⟨bt,ot,none⟩) x.tags.length ct) (.slice a2 x.tags.length c2) a2 x.tags:=
   ⟨(((B3 _ _ _).trans (hb1.mono (by simp;omega))).setCell (by simp;omega) _).setCell (by simp;omega) _,⟨Nat.le_refl _,by have:=hb1.size;simp at this ⊢;omega⟩,by simp [go_sem, *],by simp [go_sem, *],by simp [go_sem, *],by simp [go_sem, *],
    by simp [go_sem];exact zaa hb1 (by simp [go_sem]),by simp [go_sem];exact zaa hb1 (by simp [go_sem]),by simp [go_sem];exact zaa hb1 (by simp [go_sem]),by simp [go_sem];exact zaa hb1 (by simp [go_sem]),
    fun j=>by simp [go_sem];exact zcI hb1 (by simp) (by simp [go_sem]),⟨c2,rfl,zan (zae i2 (fun g hg=>by have h1:=(i2.lt g hg).1;simp at h1;rw [Below.heap_setCell _ _ _ _ (by simp;omega),Below.heap_setCell _ _ _ _ (by simp;omega)])) (by simp)⟩⟩
  have NF':=hidB NF
  clear NF HC2 HC3 i2 hb1 y0 y1 hs1 hn1 hn2 z0 z1 v0 v1
  generalize (w1.setCell ⟨w.heap.size+1+1,0,none⟩ (.int .i64 (i:Int))).setCell ⟨w.heap.size+1+1,1,none⟩ (.slice a2 x.tags.length c2)=W at *
  generalize w.heap.size+1+1=G at *
 all_goals
  obtain ⟨hBW,⟨hG1,hG2⟩,b0,b1,g0,g1,p0,p1,p2,p3,hn,hints⟩:=NF'.out
  have dsW:=zaa hBW DS.out
  have hD:Below W.heap.size W W.drew:=(Below.refl _ _).drew
  have IR:=hidB (znE bt ot ct x.tags W.drew ((HT.out.below hBW).below hD) htl)
  obtain ⟨c2',hc2,hints⟩:=hints
  injection hc2 with _ _ hc2
  subst hc2
  have HI:=hidB hints
  have HB:=hidB hBW
  have e1:br≠w.heap.size+1:=by omega
  have e2:G≠w.heap.size+1:=by omega
  have e3:w.heap.size+1≠br:=by omega
  have e4:w.heap.size+1≠G:=by omega
  have hsW:w.heap.size+1<W.heap.size:=by omega
  have hnD:∀ j,W.drew.frozen? ⟨w.heap.size+1,j,none⟩=false:=hn
  have hsD:w.heap.size+1<W.drew.heap.size:=hsW
  have KD:=hidB (fun (w2:World) (hb2:Below W.drew.heap.size W.drew w2)=>(⟨zaa (p:=⟨w.heap.size+1,0,none⟩) hb2 p0,zaa (p:=⟨w.heap.size+1,1,none⟩) hb2 p1,zaa (p:=⟨w.heap.size+1,2,none⟩) hb2 p2,zaa (p:=⟨w.heap.size+1,3,none⟩) hb2 p3,zaa (p:=⟨w.heap.size,0,none⟩) hb2 b0,zaa (p:=⟨w.heap.size,1,none⟩) hb2 b1,zaa (p:=⟨br,orr+i * 5+1,none⟩) hb2 dsW,zaa (p:=⟨G,0,none⟩) hb2 g0,zaa (p:=⟨G,1,none⟩) hb2 g1,fun j=>zcI hb2 hsD (hnD j)⟩:w2.cell? ⟨w.heap.size+1,0,none⟩=some (.int .i64 0)∧w2.cell? ⟨w.heap.size+1,1,none⟩=some (.slice none 0 0)∧w2.cell? ⟨w.heap.size+1,2,none⟩=some (.int .i64 0)∧w2.cell? ⟨w.heap.size+1,3,none⟩=some (.slice none 0 0)∧w2.cell? ⟨w.heap.size,0,none⟩=some (.int .i64 (i:Int))∧w2.cell? ⟨w.heap.size,1,none⟩=some (.slice (some ⟨bt,ot,none⟩) x.tags.length ct)∧w2.cell? ⟨br,orr+i * 5+1,none⟩=some (.int .i64 r.sal)∧w2.cell? ⟨G,0,none⟩=some (.int .i64 (i:Int))∧w2.cell? ⟨G,1,none⟩=some (.slice a2 x.tags.length c2)∧∀ j,w2.frozen? ⟨w.heap.size+1,j,none⟩=false))
  clear NF' hints hBW B2 B3
  go_wp2_with fail
  go_region_held3 (fun w'=>w'.cell? ⟨w.heap.size,0,none⟩=some (.int .i64 (i:Int))∧w'.cell? ⟨w.heap.size,1,none⟩=some (.slice (some ⟨bt,ot,none⟩) x.tags.length ct)∧w'.cell? ⟨br,orr+i * 5+1,none⟩=some (.int .i64 r.sal)∧w'.cell? ⟨G,0,none⟩=some (.int .i64 (i:Int))∧w'.cell? ⟨G,1,none⟩=some (.slice a2 x.tags.length c2)) (first | (go_split_ands;(refine ⟨?_,?_,?_,?_,?_⟩ <;> first | with_reducible assumption | (simp [*];done) | with_reducible exact zaa hb2 (by assumption) | (simp [go_sem, *];done));done) | go_keep)
   (first
    | (go_at_call 75;with_reducible refine IR.out.mono ?_;rintro e w2 ⟨⟨a1,c1,rfl,o1⟩,hb2⟩;obtain ⟨u0,u1,u2,u3,u4,u5,u6,u7,u8,t0⟩:=KD.out w2 hb2)
    | fail)
  have L4:∀ (B:Nat) (e:TypeId) (v:Value) (n:Nat) (xs:List Value),w2.ownsRow B e 1 v n xs→w.heap.size+1<B→((((w2.setCell ⟨w.heap.size+1,0,none⟩ (.int .i64 r.sal)).setCell ⟨w.heap.size+1,1,none⟩ (.slice a1 (recA x.tags).length c1)).setCell ⟨w.heap.size+1,2,none⟩ (.int .i64 (i:Int))).setCell ⟨w.heap.size+1,3,none⟩ (.slice a2 x.tags.length c2)).ownsRow B e 1 v n xs:=fun B e v n xs ho h=>zae ho (fun g hg=>by
   have h1:=(ho.lt g hg).1
   rw [Below.heap_setCell _ _ _ _ (by simp;omega),Below.heap_setCell _ _ _ _ (by simp;omega),Below.heap_setCell _ _ _ _ (by simp;omega),Below.heap_setCell _ _ _ _ (by simp;omega)])
  have I1:=hidB (zan (L4 _ _ _ _ _ o1 hsD) (base':=w.heap.size) (by simp;omega))
  have I2:=hidB (zan (L4 _ _ _ _ _ (zag (zag HI.out hD) hb2) (by omega)) (base':=w.heap.size) (by omega))
  have HB4:=hidB (((((HB.out.drew.trans (hb2.mono (by have:=HB.out.size;simp;omega))).setCell (p:=⟨w.heap.size+1,0,none⟩) (by simp) (.int .i64 r.sal)).setCell (p:=⟨w.heap.size+1,1,none⟩) (by simp) (.slice a1 (recA x.tags).length c1)).setCell (p:=⟨w.heap.size+1,2,none⟩) (by simp) (.int .i64 (i:Int))).setCell (p:=⟨w.heap.size+1,3,none⟩) (by simp) (.slice a2 x.tags.length c2))
  clear HB HI o1 L4
  go_wp2_with fail
  refine bodyPost_ret (v:=.agg #[.int .i64 r.sal,.slice a1 (recA x.tags).length c1,.int .i64 (i:Int),.slice a2 x.tags.length c2]) (by simp [results,Tryz.results41,go_sem,u0,u1,u2,u3]) rfl ⟨⟨a1,c1,a2,c2,by rw [HVAL.out],I1.out,I2.out⟩,HB4.out⟩
theorem zeA (rs:List Ru) (a:Option Addr) (c:Nat) (x:In) (bt ot ct:Nat) (w:World) {q q':Option Nat} (hv:zbR q w a rs) (ht:zas q' w (some ⟨bt,ot,none⟩) x.tags) (hp:zaJ rs x=true) (hl:rs.length≤1048576) :
  Calls Tryz.prog 41 #[.slice a rs.length c,.agg #[.int .i64 x.rule,.slice (some ⟨bt,ot,none⟩) x.tags.length ct]] w fun e w'=>
   (∃ a1 c1 a2 c2,e=.returned (enV rs x a1 c1 a2 c2)∧zas none w' a1 (recA x.tags)∧zas none w' a2 x.tags)∧Below w.heap.size w w':=by
 refine (zeF rs a c x bt ot ct w hv ht hp hl).mono ?_
 rintro e w' ⟨⟨a1,c1,a2,c2,he,o1,o2⟩,hb⟩
 exact ⟨⟨a1,c1,a2,c2,he,zas.owns o1,zas.owns o2⟩,hb⟩
end Go.Proofs.YtmmdlgjmplddiaaGreat
