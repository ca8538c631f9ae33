/-
  OUR OWN TEXT. Fw10, Fwa, one behind the other.
-/
import Derived.Test.YtjjjagepnnbebaaGreatDoorKan
import Derived.Test.YtjjjagepnnbebaaGreatDoorKal
import Derived.Test.YtjjjagepnnbebaaGreatDoorKam
import Derived.Test.YtjjjagepnnbebaaGreatDoorKac
import Derived.Test.YtjjjagepnnbebaaGreatDoorKao
set_option maxRecDepth 100000
namespace Go.Proofs.YtjjjagepnnbebaaGreatDoor
open Go.RowKit
attribute [local go_sem ↓] Go.wp_at_zero Go.wp_at_succ
theorem zqV:(Tryz.prog.info? 39).map (fun i=>(i.zero,i.size,i.bytes))=some (some (.agg #[.string ⟨#[]⟩,.int .i64 0,.slice none 0 0,.slice none 0 0,.slice none 0 0]),5,96):=by kernel_rfl
set_option maxHeartbeats 3200000 in
theorem zgP(g most:Nat)(l:Bs)(w:World)(h:Rdr w g l)(hm:1<=most)(aH:most<=8) :
  Calls Tryz.prog 14 #[.pointer (some ⟨g,0,none⟩),.int .i64 (most:Int)] w fun e w'=>∃ a c M,e=.returned (.slice a (List.length M) c)/\1<=M.length/\M.length<=most/\MOk M/\RO w' w.heap.size a c M/\Rs g (zb7 nmK most l).2 w w'/\Hid (M.map RuX.ru=(zb7 nmK most l).1):=by
 have H:=hidR h;have af:=h.lt;clear h;have aL:¬ (most:Int)=0:=by omega
 go_enter Tryz.func14,Tryz.ntmps14;go_wp2_with fail
 refine (zbQ g l w H.out).mono ?_;rintro e w1 ⟨n1,aM,rfl,al,ar⟩;have R1:=hidR al;clear al H;obtain ⟨n0,Z⟩:∃ n0,n0=1+n1 % most:=⟨_,rfl⟩
 have aj:1+(n1:Int) % (most:Int)=(n0:Int):=by rw[Z];push_cast;rfl
 have aw:=Nat.mod_lt n1 (show 0<most by omega);have aG:1<=n0/\n0<=most:=by omega
 have U:Hid (zb7 nmK most l=zdA nmK n0 0 l.tail):=show _=_ from by unfold zb7;rw[ar.out,<- Z]
 clear Z aw ar;go_wp2_with fail
 clear aj
 go_loopw [5,6] (fun ov nv wr=>∃ (j:Nat) (a:Option Addr) (c:Nat) (M:List RuX) (lr:Bs),nv=.int .i64 (j:Int)/\ov=.slice a M.length c/\M.length+j=n0/\MOk M/\RO wr w.heap.size a c M/\Rs g lr w wr/\RFs nmK n0 l.tail (M.map RuX.ru) j lr) (fun _ nv _=>(intOf nv).toNat)
 case atStart=>exact ⟨n0,none,0,[],l.tail,rfl,rfl,by simp,fun i x h=>by simp at h,RO.nil _ _,R1.out,RFs.nil⟩
 case round=>
  obtain ⟨j,a,c,M,lr,rfl,rfl,hj,aq,au,hR,ak⟩:=hrel;have ao:=hidR ak;clear ak;have ap:=hidR aq;clear aq;have HJ:=hidR hj;have aO:j<=8:=by omega
  have aN:M.length<=8:=by omega
  have aE:=hidR (show M.length<=most by omega);have MO:=hidR au;have R:=hidR hR;have ax:=hR.1.rest.size;clear hj au hR R1;by_cases ay:j=0
  ·have az:1<=M.length:=by have:=HJ.out;omega
   clear HJ;subst ay;go_wp2_with fail
   go_ret;have O:zb7 nmK most l=(M.map RuX.ru,lr):=by rw[U.out];exact ao.out.fin
   exact ⟨a,c,M,rfl,az,aE.out,ap.out,MO.out,by rw[O];exact R.out,show _=_ from by rw[O]⟩
  have aK:(0:Int)<(j:Int):=by omega
  go_wp2_with fail
  refine (zhq g M.length lr wr R.out.2 (by omega)).mono ?_;rintro e w2 ⟨x,rfl,⟨ah,aD⟩,I,X,G⟩;have U:=hidR ah;have aF:=hidR I;obtain ⟨⟨pa,pn,pc,ad⟩,⟨ea,en,ec,ab⟩,aa,an,ac,ae⟩:=X.slices;obtain ⟨nm,sal,pv,ev,av,pats,es,acts⟩:=x;dsimp only at ad ab ae;subst ad ab ae;have E:=hidR (MO.out.rs G af);have R2:=hidR (R.out.trans G);have aA:=hidR (X.lower ax);have aJ:=G.1.rest.size;have HW:=zHA w2;have TY:=hidR (fun o k hk=>zaA (zao E.out.1 (HW.out o)) (k:=k) hk);clear X G MO R ah I;unfold ruV;go_wp2_with (first | (at_builtin;refine zag (by rfl) (.tmp 16) (.tmp 21) 24 (by rfl) w.heap.size 39 _ 5 96 Tryz.underlying24 zqV (by rfl) (by omega) _ M.length _ (by rfl) (zao E.out.1 (HW.out _)) (some ⟨_,0,none⟩) 1 1 (by rfl) (rcells ⟨nm,sal,.slice pa pn pc,.slice ea en ec,.slice aa an ac,pats,es,acts⟩) (by rfl) (fun e=>by cases e) (zas _ _ _ _ (by simp)) (by intro u hu;simp[rcells]at hu;rcases hu with rfl | rfl | rfl | rfl | rfl <;> rfl) (by unfold maxLen;omega) (by omega) (by simp;omega) ?_;intro a9 c9 w9 aB ag aI) | fail);go_roundw
  case rel=>
   refine ⟨j - 1,a9,c9,M ++ [⟨nm,sal,.slice pa pn pc,.slice ea en ec,.slice aa an ac,pats,es,acts⟩],(zgo (nmK M.length) lr).2,?_,by simp,by simp;have:=HJ.out;omega,ap.out.snoc U.out aF.out,⟨by simpa using aB.out,fun x hx=>?_⟩,(R2.out.bel (HW.out _)).grown ag.out (fun k hk=>(E.out.1.lt k hk).1) af,(by rw[List.map_append];exact RFs.step ao.out (by simp) (by omega) aD.out)⟩
   ·rw[show ((j - 1:Nat):Int)=(j:Int) - 1 by omega]
   ·have aC:RuP w2 w.heap.size x:=by
     rcases List.mem_append.1 hx with hx | hx
     ·exact E.out.2 x hx
     simp at hx;subst hx;exact aA.out
    exact (aC.same (Same.bel (HW.out _))).same (Same.grown ag.out (TY.out _) (by decide))
  case measure=>(simp[intOf];omega)
theorem zfo{α β:Type}{R:World->List Value->β->Prop}{cells:α->List Value}{f:α->β}{m:Nat}(hm:∀ x,(cells x).length=m)(G:0<m){w:World}{base:Nat}{t:TypeId}{a:Option Addr}{n c:Nat}{L:List α}(h:w.ownsRow base t m (.slice a n c) n (L.flatMap cells))(I:∀ x∈L,R w (cells x) (f x)):zbf R none t m w a (L.map f):=by
 intro i y hy;rw[List.getElem?_map]at hy;obtain ⟨x,hx,rfl⟩:=Option.map_eq_some_iff.1 hy;have E:=fun j u (hj:(cells x)[j]?=some u)=>zbE h (zli (cells:=cells) (m:=m) hm L i x j u hx hj);obtain ⟨k,rfl,_⟩:=E 0 ((cells x)[0]'(by rw[hm];exact G)) (by simp);refine ⟨k,0,cells x,rfl,Qb.bare _ _ _,hm x,fun j v hj=>?_,I x (List.mem_of_getElem? hx)⟩;obtain ⟨U,e,_,O,_⟩:=E j v hj
 cases e
 rw[Nat.zero_add];exact O
theorem PO.pts{w:World}{base:Nat}{a:Option Addr}{c:Nat}{L:List PtV}(h:PO w base a c L):zdv none w a (L.map Prod.fst):=by
 refine zfo (cells:=pcells) (fun _=>rfl) (by decide) h.1 (fun x hx=>?_);obtain ⟨⟨E,G,e⟩,ho,_⟩:=h.2 x hx;rw[e]at ho;have ht:zfP none w E x.1.terms:=by
  have:=zfo (R:=Tm.R) (cells:=zbA) (f:=id) (fun _=>rfl) (by decide) ho (fun _ _=>rfl);simpa using this
 exact ⟨E,G,by rw[pcells,e],ht,ziJ ho⟩
theorem AcO.acs{w:World}{base:Nat}{a:Option Addr}{c:Nat}{Y:List AcV}(h:AcO w base a c Y):zdY none w a (Y.map Prod.fst):=by
 refine zfo (cells:=acells) (fun _=>rfl) (by decide) h.1 (fun x hx=>?_);obtain ⟨⟨G,E,e⟩,ho⟩:=h.2 x hx;rw[e]at ho;exact ⟨G,E,by rw[acells,e],zbL.owns ho⟩
theorem RO.rus{w:World}{base:Nat}{a:Option Addr}{c:Nat}{M:List RuX}(h:RO w base a c M):zdD none w a (M.map RuX.ru):=by
 refine zfo (cells:=rcells) (fun _=>rfl) (by decide) h.1 (fun x hx=>?_);obtain ⟨⟨pa,pc,e1,h1⟩,⟨ea,ec,e2,h2,_⟩,aa,ac,e3,h3⟩:=h.2 x hx;have he:zbG none w ea x.es:=by
  have:=zfo (R:=Ex.R) (cells:=zbC) (f:=id) (fun _=>rfl) (by decide) h2 (fun _ _=>rfl);simpa using this
 exact ⟨pa,pc,ea,ec,aa,ac,by unfold rcells;rw[e1,e2,e3];simp[RuX.ru],h1.pts,he,h3.acs,ziJ h2⟩
theorem RO.cap{w:World}{base:Nat}{a:Option Addr}{c:Nat}{M:List RuX}(h:RO w base a c M):M.length<=c:=ziJ h.1
theorem zmj{s:ByteArray}(h:gSym s.data.toList=true):s.size<=1048576:=by
 simp only[gSym,Bool.and_eq_true,decide_eq_true_eq]at h;have:s.data.toList.length=s.size:=Array.length_toList;omega
theorem zhh{s:ByteArray}(h:isE s=true):s.size<=1048576:=by
 rw[zgh h];exact Nat.zero_le _
theorem zm8{a:Ac}(h:zav a=true):a.cls.size<=1048576:=by
 unfold zav at h;split at h
 ·simp only[gCls,Bool.and_eq_true]at h;exact zmj h.1.1
 split at h
 ·simp only[Bool.and_eq_true]at h;exact zhh h.1.1
 split at h
 ·simp only[Bool.and_eq_true]at h;exact zhh h.1
 split at h
 ·simp only[Bool.and_eq_true]at h;exact zhh h.1
 cases h
theorem zdp.le{K:List ByteArray}{pos:Nat}:∀ {E:List Ac}{n:Nat}{ys:List Ex},zdp K pos n ys E->∀ a∈E,Ac.le 1048576 a
 | [],n,ys,h=>by simp
 | x :: r,n,ys,h=>by
  obtain ⟨A,C,rfl,I,hx,G⟩:=h
  intro a ha
  rcases List.mem_cons.1 ha with rfl | ha
  ·exact ⟨zm8 hx.1,by omega⟩
  exact zdp.le G a ha
structure RsOk (rs:List Ru):Prop where
 len:1<=rs.length/\rs.length<=8
 chk:chk rs=(0,0,0)
 le:zb3 Ru.le 1048576 rs
 ops:∀ x∈rs,zg8 x.exprs
 vok:∀ r∈rs,∀ p∈r.pats,∀ t∈p.terms,VOk t.val
 sal:∀ r∈rs, -9223372036854775808<=r.sal/\r.sal<=9223372036854775807
theorem zrT{v:V}(h:VSm v):VOk v:=by
 obtain ⟨h1,⟨h2,h3⟩,E,G,_⟩:=h;exact ⟨zjS h2 h3,zjS E G,by unfold maxLen;omega⟩
theorem zsv{w:World}{base:Nat}{a:Option Addr}{c:Nat}{M:List RuX}(h:RO w base a c M)(U:MOk M)(h1:1<=M.length)(X:M.length<=8):RsOk (M.map RuX.ru):=by
 have O:∀ x∈M,∀ y∈x.pats,PtX w base y:=fun x hx y hy=>by
  obtain ⟨⟨pa,pc,e1,h1⟩,_⟩:=h.2 x hx;exact h1.2 y hy
 have I:∀ x∈M,∀ e∈x.es,ExSm e:=fun x hx=>by
  obtain ⟨_,⟨_,_,_,_,h3⟩,_⟩:=h.2 x hx;exact h3
 have hd:∀ x∈M,∃ k,DRu k x.ru:=fun x hx=>by
  obtain ⟨i,hi⟩:=List.mem_iff_getElem?.1 hx;exact ⟨i,(U i x hi).1⟩
 refine ⟨by simpa using And.intro h1 X,zn4 (fun i r hr=>?_) (by simp;omega),⟨by simp;omega,fun r hr=>?_⟩,fun r hr e he=>?_,fun r hr p hp t ht=>?_,fun r hr=>?_⟩
 ·rw[List.getElem?_map]at hr;obtain ⟨x,hx,rfl⟩:=Option.map_eq_some_iff.1 hr;exact (U i x hx).1
 ·obtain ⟨x,hx,rfl⟩:=List.mem_map.1 hr;obtain ⟨k,hn,K,pos,G⟩:=hd x hx;refine ⟨?_,⟨by have:=G.pats;omega,fun p hp=>?_⟩,⟨by have:=G.exprs;omega,fun e he=>?_⟩,by have:=G.acts;omega,fun a ha=>?_⟩
  ·rw[hn];exact Nat.le_trans (show (nmK k).size<=2 from Nat.le_refl 2) (by decide)
  ·obtain ⟨y,hy,rfl⟩:=List.mem_map.1 hp;obtain ⟨_,_,hc,Z,E⟩:=O x hx y hy;exact ⟨by have:=hc.1;omega,by omega,fun t ht=>⟨by have:=(E t ht).1;omega,by have:=(E t ht).2.1.1;omega⟩⟩
  ·have:=I x hx e he;exact ⟨by have:=this.1;omega,by have:=this.2.1.1;omega⟩
  exact G.trees.le a ha
 ·obtain ⟨x,hx,rfl⟩:=List.mem_map.1 hr;exact ⟨(I x hx e he).2.2.1,(I x hx e he).2.2.2⟩
 ·obtain ⟨x,hx,rfl⟩:=List.mem_map.1 hr;obtain ⟨y,hy,rfl⟩:=List.mem_map.1 hp;obtain ⟨_,_,_,_,E⟩:=O x hx y hy;exact zrT (E t ht).2.1
 obtain ⟨x,hx,rfl⟩:=List.mem_map.1 hr;obtain ⟨i,hi⟩:=List.mem_iff_getElem?.1 hx;exact (U i x hi).2
theorem zqW{w:World}{a:Option Addr}{B:Bs}{c g:Nat}(h:zbZ w a B)(hn:B.length<=1048576)(hg:w.heap.size=g):Rdr (w.alloc (.cells #[.slice a B.length c,.int .i64 0] 44)) g B:=by
 subst hg;refine ⟨a,B,c,0,heap_alloc_new _ _,Nat.zero_le _,hn,rfl,fun j x hj=>?_⟩;obtain ⟨b,o,e1,e2,E⟩:=h j x hj;exact ⟨b,o,e1,e2,zaa ((Below.refl _ _).alloc (Nat.le_refl _) _) E⟩
theorem zsk{w:World}{base:Nat}{a:Option Addr}{c:Nat}{M:List RuX}(h:RO w base a c M)(G:MOk M):∀ r∈M.map RuX.ru,RuN r:=by
 intro r hr;obtain ⟨x,hx,rfl⟩:=List.mem_map.1 hr;obtain ⟨⟨pa,pc,e1,h1⟩,⟨ea,ec,e2,h2,h3⟩,_⟩:=h.2 x hx;obtain ⟨i,hi⟩:=List.mem_iff_getElem?.1 hx;refine ⟨(G i x hi).2,fun p hp t ht=>?_,fun e he=>?_⟩
 ·obtain ⟨y,hy,rfl⟩:=List.mem_map.1 hp;obtain ⟨_,_,_,_,E⟩:=h1.2 y hy;exact ⟨(E t ht).2.1.2.2.1,(E t ht).2.1.2.2.2.1⟩
 exact ⟨(h3 e he).2.1.2.2.1,(h3 e he).2.1.2.2.2.1⟩
end Go.Proofs.YtjjjagepnnbebaaGreatDoor
