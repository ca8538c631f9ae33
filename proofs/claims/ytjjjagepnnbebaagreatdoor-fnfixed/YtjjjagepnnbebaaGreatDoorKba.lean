/-
  OUR OWN TEXT. Sx14, Sx15, Sx16, Mq1, Mq2, Mq3, Mq4, Sx17, Sx18, Sx19, Sx20, one behind the other.
-/
import Derived.Test.YtjjjagepnnbebaaGreatDoorSx13m
import Derived.Test.YtjjjagepnnbebaaGreatDoorKav
import Derived.Test.YtjjjagepnnbebaaGreatDoorHwm
import Derived.StringKeys
import Derived.Maps.Own
import Derived.Maps.OwnSet
import Derived.Maps.Views
import Derived.Maps.Keyed
set_option maxHeartbeats 3200000
set_option maxRecDepth 100000
namespace Go.Proofs.YtjjjagepnnbebaaGreatDoor
open Go.RowKit
attribute [local go_sem ↓] Go.wp_at_zero Go.wp_at_succ
def pwA(x:Wd):Value:=.agg #[.int .i32 (pkW x),.int .i64 (x.pos:Int),.string (mkS (ptW x)),.int .i64 x.num]
def Rw(x:Wd)(e:Ending)(_:World):Prop:=e=.returned (pwV (pkW x) x.pos (ptW x) x.num)
theorem PPost.err{α:Type}{w w':World}{pb:Nat}{src:Bs}{a:Option Addr}{c:Nat}{R:List Value}{Q:α->Ending->World->Prop}{r:Px α}{f:Flt}(hr:r=.error f)(hm:MkO (some pb) w w'):PPost w pb src a c R Q r (fltE f) w':=by
 subst hr;exact ⟨hm,rfl⟩
theorem PPost.good{α:Type}{w w':World}{pb:Nat}{src:Bs}{a:Option Addr}{c:Nat}{R:List Value}{Q:α->Ending->World->Prop}{r:Px α}{x:α}{l:List Wd}{e:Ending}(hr:r=.ok (x,l))(hm:MkO (some pb) w w')(E:Q x e w')(hp:PSt w' pb src a c l R):PPost w pb src a c R Q r e w':=by
 subst hr;exact ⟨hm,E,hp⟩
theorem PSt.turned{w w':World}{pb g:Nat}{src:Bs}{a:Option Addr}{c:Nat}{l:List Wd}{R:List Value}(h:PSt w pb src a c l R)(ht:Turned w w' g)(hg:pb<g):PSt w' pb src a c l R:=by
 obtain ⟨k,hs⟩:=h.sc;have hb:Below g w w':=ht.below (Nat.le_refl _);exact ⟨⟨k,(hb.block pb hg).trans hs.blk,hs.src0,hs.cap,hs.len,hs.bys.keep (fun b o e=>Nat.lt_trans (hs.far b o e) hg) hb,hs.far,hs.pos⟩,h.env.keep (hb.mono (Nat.le_of_lt hg))⟩
theorem zfk{w:World}{b:Nat}{x:Wd}(h:w.heap[b]?=some (.cells #[.int .i32 (pkW x),.int .i64 (x.pos:Int),.string (mkS (ptW x)),.int .i64 x.num] 131 (0,0))):∃ (L:List Value) (X:Int),Hid (X=pkW x/\L=pwL (pkW x) x.pos (ptW x) x.num)/\(((Tryz.prog.info? 131).map (·.size)=some L.length)/\(L.length=4/\∀ v∈L,v.oneCell'=true))/\w.heap[b]?=some (.cells L.toArray 131 (0,0))/\w.cell? ⟨b,0,none⟩=some (.int .i32 X):=
 ⟨_,_,⟨rfl,rfl⟩,⟨zaM,rfl,zbb _ _ _ _⟩,h,by simp[World.cell?,h]⟩
theorem zfy(w:World)(pb:Nat)(src:Bs)(a:Option Addr)(c:Nat)(l:List Wd)(R:List Value)(h:PSt w pb src a c l R):Calls Tryz.prog 132 #[.pointer (some ⟨pb,0,none⟩)] w (PPost w pb src a c R Rw (zaj l)):=by
 obtain ⟨k,hs⟩:=h.sc;refine (zhJ w pb 0 _ _ src a c l hs h.env).mono ?_;rintro e w' ⟨hm,hp⟩
 cases hr:zaj l with
 | error f=>
  rw[hr]at hp;exact ⟨hm,hp⟩
 | ok p=>
  obtain ⟨x,r⟩:=p;rw[hr]at hp;obtain ⟨he,j,hj⟩:=hp;exact ⟨hm,he,⟨j,by simpa using hj⟩,h.env.keep (hm.bel h.lt)⟩
theorem zbt(w:World)(pb:Nat)(src:Bs)(a:Option Addr)(c:Nat)(l:List Wd)(R:List Value)(kd:Int)(h:PSt w pb src a c l R):Calls Tryz.prog 85 #[.pointer (some ⟨pb,0,none⟩),.int .i32 kd] w (PPost w pb src a c R Rw (zai kd l)):=by
 have HP:=hidX h;have ar:=h.lt;clear h;go_enter Tryz.func85,Tryz.ntmps85;go_upto_region 1 with fail
 refine zaf ?_;intro w1 ag U;have I:=hidX (zfy w1 pb src a c l R (HP.out.below ag));have M1:=hidX (MkO.of_below ag:MkO (some pb) w w1);have ak:w.heap.size<w1.heap.size:=zab U;obtain ⟨Z,hZ⟩:∃ Z:Array Value,Z=#[.int .i32 0,.int .i64 0,.string ⟨#[]⟩,.int .i64 0]:=⟨_,rfl⟩
 rw[<- hZ]at U;have ao:Z.size=4:=by rw[hZ];rfl
 clear ag hZ
 cases hr:zaj l with
 | error f=>
  have HT:Hid (zai kd l=.error f):=show _=_ from by unfold zai;rw[hr]
  rw[hr]at I;go_wp2_with (first | (go_at_call 132;refine I.out.mono ?_;rintro e w2 ⟨G,rfl⟩;unfold fltE) | fail);exact ⟨rfl,PPost.err HT.out (M1.out.trans G)⟩
 | ok p=>
  obtain ⟨x,r⟩:=p;rw[hr]at I;go_upto_region 2 with (first | (go_at_call 132;refine I.out.mono ?_;rintro e w2 ⟨G,af,ah⟩;replace af:e=.returned (pwA x):=af;subst af;unfold pwA) | fail);refine zaf ?_;intro w3 ad O;obtain ⟨L,X,ab,E,O,y0⟩:=zfk O;have M3:=hidX ((M1.out.trans G).trans (MkO.of_below ad));have P3:=hidX (ah.below ad);have aq:=G.rest.size;have ap:=(ad.block w.heap.size (by omega)).trans ((G.block w.heap.size ak (fun e=>by injection e;omega)).trans U);have au:w2.heap.size<w3.heap.size:=zab O;clear ad G ah U I HP M1;by_cases hk:X=kd
  ·have HT:Hid (zai kd l=.ok (x,r)):=show _=_ from by unfold zai;rw[hr];simp[<- ab.out.1,hk]
   have e1:(X != kd)=false:=by simp[hk]
   clear hk;go_wp2_with (first | (refine zam (by rfl) 131 (.tmp 5) (by rfl) w2.heap.size L (by rfl) 131 (0,0) O _ Tryz.underlying131 rfl E.1 ?_) | (refine zac (by rfl) 131 (.tmp 4) (.tmp 17) (by rfl) w.heap.size L (by rfl) (by rfl) _ 131 ap (ao.trans E.2.1.symm) E.1 E.2.2 ?_;intro w4 ae aj) | fail);have al:=run_loadVar_mid (P:=Tryz.prog) w4 w.heap.size 0 131 L _ (zal ae.out) Tryz.underlying131 rfl E.1
   go_frame
   refine bodyPost_ret (v:=.agg L.toArray) (by simp[results,Tryz.results85,asAddr,al]) rfl (PPost.good HT.out (M3.out.turn aj.out (Nat.le_refl _)) ?_ (P3.out.turned aj.out (by omega)));rw[ab.out.2];rfl
  have HT:Hid (zai kd l=.error (3,x.pos)):=show _=_ from by unfold zai;rw[hr];simp[<- ab.out.1,hk]
  have e1:(X != kd)=true:=by simp[hk]
  have HF:=hidX (fun u=>(show Calls Tryz.prog 93 #[.agg L.toArray,.int .i64 3] u fun e w'=>e=.returned (.agg #[.int .i64 3,.int .i64 (x.pos:Int)])/\Below u.heap.size u w' from by rw[ab.out.2];exact zc0 _ _ _ _ _ _));clear hk;go_wp2_with (first | (refine zam (by rfl) 131 (.tmp 5) (by rfl) w2.heap.size L (by rfl) 131 (0,0) O _ Tryz.underlying131 rfl E.1 ?_) | (go_at_call 93;refine (HF.out _).mono ?_;rintro e w4 ⟨rfl,ae⟩) | fail);exact ⟨rfl,PPost.err HT.out (M3.out.trans (MkO.of_below ae))⟩
def zeE(n m:Int)(l:List Wd):Px Wd:=match zaj l with
 | .error f=>.error f
 | .ok (x,_)=>if pkW x=40/\m<=n then .error (4,x.pos) else zai 40 l
def zaW(n m:Int)(l:List Wd):Px Unit:=match zaj l with
 | .error f=>.error f
 | .ok (x,_)=>if m<=n/\pkW x≠41/\pkW x≠0 then .error (4,x.pos) else .ok ((),l)
def notT:Bs:=[110,111,116]
def za3(l:List Wd):Px Bs:=match zai 97 l with
 | .error f=>.error f
 | .ok (x,r)=>if ptW x=notT then .error (3,x.pos) else .ok (ptW x,r)
def pVal(l:List Wd):Px V:=match zaj l with
 | .error f=>.error f
 | .ok (x,r)=>if pkW x=48∨pkW x=97 then .ok (wVal (pkW x) x.num (ptW x),r) else .error (3,x.pos)
def Rn{α:Type}(_:α)(e:Ending)(_:World):Prop:=e=.returned (.tuple #[])
def Rs1(t:Bs)(e:Ending)(_:World):Prop:=e=.returned (.string (mkS t))
def Rv(v:V)(e:Ending)(_:World):Prop:=e=.returned (.agg v.cells.toArray)
theorem zdH{L:List Value}{X:Int}{x:Wd}(h:Hid (X=pkW x/\L=pwL (pkW x) x.pos (ptW x) x.num))(code:Int)(u:World):Calls Tryz.prog 93 #[.agg L.toArray,.int .i64 code] u fun e w'=>e=.returned (.agg #[.int .i64 code,.int .i64 (x.pos:Int)])/\Below u.heap.size u w':=by
 rw[h.out.2];exact zc0 _ _ _ _ _ _
theorem zkh{L:List Value}{X:Int}{x:Wd}(h:Hid (X=pkW x/\L=pwL (pkW x) x.pos (ptW x) x.num))(u:World):Calls Tryz.prog 133 #[.agg L.toArray] u fun e w'=>e=.returned (.agg (wVal (pkW x) x.num (ptW x)).cells.toArray)/\Below u.heap.size u w':=by
 rw[h.out.2];exact zmf _ _ _ _ _
theorem zp4{w:World}{x:Wd}{r:List Wd}{e:Ending}{w':World}(h:zqc w (.ok (x,r)) e w'):Below w.heap.size w w'/\e=.returned (pwA x):=h
theorem zi3(w:World)(pb:Nat)(src:Bs)(a:Option Addr)(c:Nat)(l:List Wd)(R:List Value)(n m:Int)(h:PSt w pb src a c l R):Calls Tryz.prog 47 #[.pointer (some ⟨pb,0,none⟩),.int .i64 n,.int .i64 m] w (PPost w pb src a c R Rn (zeE n m l)):=by
 have HP:=hidX h;obtain ⟨k,hs⟩:=h.sc;have G:=hidX (ziC w pb k src a c l R hs h.env);have af:=hidX hs.range;clear h hs;go_enter Tryz.func47,Tryz.ntmps47
 cases hr:zaj l with
 | error f=>
  have U:Hid (zeE n m l=.error f):=show _=_ from by unfold zeE;rw[hr]
  rw[hr]at G;go_wp2_with (first | (refine wpList_load_mid (by rfl) 51 (.tmp 9) (by rfl) pb 0 (by rfl) [.slice a src.length c,.int .i64 (k:Int)] _ af.out Tryz.underlying51 rfl zhF ?_) | (go_at_call 92;refine G.out.mono ?_;rintro e w2 ⟨I,rfl⟩;unfold fltE) | fail);exact ⟨rfl,PPost.err U.out (MkO.of_below I)⟩
 | ok p=>
  obtain ⟨x,r⟩:=p;rw[hr]at G;go_upto_region 1 with (first | (refine wpList_load_mid (by rfl) 51 (.tmp 9) (by rfl) pb 0 (by rfl) [.slice a src.length c,.int .i64 (k:Int)] _ af.out Tryz.underlying51 rfl zhF ?_) | (go_at_call 92;refine G.out.mono ?_;intro e w2 ab;obtain ⟨I,ab⟩:=zp4 ab;subst ab;unfold pwA) | fail);refine zaf ?_;intro w3 ah Z;obtain ⟨L,X,ad,al,Z,y0⟩:=zfk Z;have E:=hidX (I.trans (ah.mono I.size));clear ah I G af;by_cases hk:X=40/\m<=n
  ·have U:Hid (zeE n m l=.error (4,x.pos)):=show _=_ from by unfold zeE;rw[hr];simp only;rw[<- ad.out.1,if_pos hk]
   have e1:(X==40)=true:=by simp[hk.1]
   have e2:m<=n:=hk.2;clear hk;go_wp2_with (first | (refine zam (by rfl) 131 (.tmp 6) (by rfl) w2.heap.size L (by rfl) 131 (0,0) Z _ Tryz.underlying131 rfl al.1 ?_) | (go_at_call 93;refine (zdH ad 4 _).mono ?_;rintro e w4 ⟨rfl,ak⟩) | fail);exact ⟨rfl,PPost.err U.out (MkO.of_below (E.out.trans (ak.mono E.out.size)))⟩
  have U:Hid (zeE n m l=zai 40 l):=show _=_ from by unfold zeE;rw[hr];simp only;rw[<- ad.out.1,if_neg hk]
  have O:=hidX (zbt w3 pb src a c l R 40 (HP.out.below E.out));have aj:(X==40)=false∨((X==40)=true/\¬ m<=n):=by
   by_cases h1:X=40
   ·exact .inr ⟨by simp[h1],fun h2=>hk ⟨h1,h2⟩⟩
   exact .inl (beqF h1)
  clear hk
  cases ht:zai 40 l with
  | error f=>
   rw[ht]at O U;rcases aj with e1 | ⟨e1,e2⟩
   all_goals
    go_wp2_with (first | (go_at_call 85;refine O.out.mono ?_;rintro e w4 ⟨ae,rfl⟩;unfold fltE) | fail);exact ⟨rfl,PPost.err U.out ((MkO.of_below E.out).trans ae)⟩
  | ok p=>
   obtain ⟨x',r'⟩:=p;rw[ht]at O U;rcases aj with e1 | ⟨e1,e2⟩
   all_goals
    go_wp2_with (first | (go_at_call 85;refine O.out.mono ?_;rintro e w4 ⟨ae,ag,ao⟩;replace ag:e=.returned (pwA x'):=ag;subst ag) | fail);refine bodyPost_end (results_none rfl _ _ _) rfl (PPost.good U.out ((MkO.of_below E.out).trans ae) rfl ao)
theorem zgH(w:World)(pb:Nat)(src:Bs)(a:Option Addr)(c:Nat)(l:List Wd)(R:List Value)(n m:Int)(h:PSt w pb src a c l R):Calls Tryz.prog 130 #[.pointer (some ⟨pb,0,none⟩),.int .i64 n,.int .i64 m] w (PPost w pb src a c R Rn (zaW n m l)):=by
 have HP:=hidX h;obtain ⟨k,hs⟩:=h.sc;have E:=hidX (ziC w pb k src a c l R hs h.env);have ab:=hidX hs.range;clear h hs;go_enter Tryz.func130,Tryz.ntmps130
 cases hr:zaj l with
 | error f=>
  have HT:Hid (zaW n m l=.error f):=show _=_ from by unfold zaW;rw[hr]
  rw[hr]at E;go_wp2_with (first | (refine wpList_load_mid (by rfl) 51 (.tmp 9) (by rfl) pb 0 (by rfl) [.slice a src.length c,.int .i64 (k:Int)] _ ab.out Tryz.underlying51 rfl zhF ?_) | (go_at_call 92;refine E.out.mono ?_;rintro e w2 ⟨G,rfl⟩;unfold fltE) | fail);exact ⟨rfl,PPost.err HT.out (MkO.of_below G)⟩
 | ok p=>
  obtain ⟨x,r⟩:=p;rw[hr]at E;go_upto_region 1 with (first | (refine wpList_load_mid (by rfl) 51 (.tmp 9) (by rfl) pb 0 (by rfl) [.slice a src.length c,.int .i64 (k:Int)] _ ab.out Tryz.underlying51 rfl zhF ?_) | (go_at_call 92;refine E.out.mono ?_;intro e w2 U;obtain ⟨G,U⟩:=zp4 U;subst U;unfold pwA) | fail);refine zaf ?_;intro w3 ad O;obtain ⟨L,X,Z,af,O,y0⟩:=zfk O;have I:=hidX (G.trans (ad.mono G.size));clear ad G E ab;by_cases hk:m<=n/\X≠41/\X≠0
  ·have HT:Hid (zaW n m l=.error (4,x.pos)):=show _=_ from by unfold zaW;rw[hr];simp only;rw[<- Z.out.1,if_pos hk]
   have e1:(X != 41)=true:=by simp[hk.2.1]
   have e2:(X != 0)=true:=by simp[hk.2.2]
   have e3:m<=n:=hk.1;clear hk;go_wp2_with (first | (refine zam (by rfl) 131 (.tmp 6) (by rfl) w2.heap.size L (by rfl) 131 (0,0) O _ Tryz.underlying131 rfl af.1 ?_) | (go_at_call 93;refine (zdH Z 4 _).mono ?_;rintro e w4 ⟨rfl,ae⟩) | fail);exact ⟨rfl,PPost.err HT.out (MkO.of_below (I.out.trans (ae.mono I.out.size)))⟩
  have HT:Hid (zaW n m l=.ok ((),l)):=show _=_ from by unfold zaW;rw[hr];simp only;rw[<- Z.out.1,if_neg hk]
  have P3:=hidX (HP.out.below I.out);have ag:¬ m<=n∨(m<=n/\(X != 41)=false)∨(m<=n/\(X != 41)=true/\(X != 0)=false):=by
   by_cases h1:m<=n
   ·by_cases h2:X=41
    ·exact .inr (.inl ⟨h1,by simp[h2]⟩)
    by_cases h3:X=0
    ·exact .inr (.inr ⟨h1,by simp[h3],by simp[h3]⟩)
    exact absurd ⟨h1,h2,h3⟩ hk
   exact .inl h1
  clear hk;rcases ag with e1 | ⟨e1,e2⟩ | ⟨e1,e2,e3⟩
  all_goals
   go_wp2_with fail
   exact bodyPost_end (results_none rfl _ _ _) rfl (PPost.good HT.out (MkO.of_below I.out) rfl P3.out)
theorem zfK{w:World}{b:Nat}{x:Wd}{L:List Value}{X:Int}(h:Hid (X=pkW x/\L=pwL (pkW x) x.pos (ptW x) x.num))(E:w.heap[b]?=some (.cells L.toArray 131 (0,0))):w.cell? ⟨b,2,none⟩=some (.string (mkS (ptW x)))/\w.cell? ⟨b,3,none⟩=some (.int .i64 x.num):=by
 rw[h.out.2]at E;exact ⟨(cells4X E).2.2.1,(cells4X E).2.2.2⟩
theorem zjz(w:World)(pb:Nat)(src:Bs)(a:Option Addr)(c:Nat)(l:List Wd)(R:List Value)(h:PSt w pb src a c l R):Calls Tryz.prog 81 #[.pointer (some ⟨pb,0,none⟩)] w (PPost w pb src a c R Rs1 (za3 l)):=by
 have G:=hidX (zbt w pb src a c l R 97 h);clear h;go_enter Tryz.func81,Tryz.ntmps81
 cases hr:zai 97 l with
 | error f=>
  have HT:Hid (za3 l=.error f):=show _=_ from by unfold za3;rw[hr]
  rw[hr]at G;go_wp2_with (first | (go_at_call 85;refine G.out.mono ?_;rintro e w2 ⟨O,rfl⟩;unfold fltE) | fail);exact ⟨rfl,PPost.err HT.out O⟩
 | ok p=>
  obtain ⟨x,r⟩:=p;rw[hr]at G;go_upto_region 2 with (first | (go_at_call 85;refine G.out.mono ?_;rintro e w2 ⟨O,U,ab⟩;replace U:e=.returned (pwA x):=U;subst U;unfold pwA) | fail);refine zaf ?_;intro w3 Z I;obtain ⟨L,X,ad,af,I,y0⟩:=zfk I;have M3:=hidX (O.trans (MkO.of_below Z));have P3:=hidX (ab.below Z);have y2:=(zfK ad I).1;have E:=zbB (mkS (ptW x)) notT;rw[zbX]at E;clear Z O ab G;by_cases hk:ptW x=notT
  ·have HT:Hid (za3 l=.error (3,x.pos)):=show _=_ from by unfold za3;rw[hr];simp only;rw[if_pos hk]
   rw[decide_eq_true hk]at E;replace E:((mkS (ptW x)).toList==[110,111,116])=true:=E;clear hk;go_wp2_with (first | (refine zam (by rfl) 131 (.tmp 3) (by rfl) w2.heap.size L (by rfl) 131 (0,0) I _ Tryz.underlying131 rfl af.1 ?_) | (go_at_call 93;refine (zdH ad 3 _).mono ?_;rintro e w4 ⟨rfl,ae⟩) | fail);exact ⟨rfl,PPost.err HT.out (M3.out.trans (MkO.of_below ae))⟩
  have HT:Hid (za3 l=.ok (ptW x,r)):=show _=_ from by unfold za3;rw[hr];simp only;rw[if_neg hk]
  rw[decide_eq_false hk]at E;replace E:((mkS (ptW x)).toList==[110,111,116])=false:=E;clear hk;go_wp2_with fail
  go_ret;exact PPost.good HT.out M3.out rfl P3.out
def zbi{α:Type}(rd:List Wd->Px α):Nat->List Wd->Px (List α)
 | 0,l=>match zaj l with
  | .error f=>.error f
  | .ok (x,r)=>if pkW x=41 then .ok ([],r) else if pkW x=0 then .error (3,x.pos) else .error (4,x.pos)
 | n+1,l=>match zaj l with
  | .error f=>.error f
  | .ok (x,r)=>if pkW x=41 then .ok ([],r) else match rd l with
   | .error f=>.error f
   | .ok (v,l1)=>match zbi rd n l1 with
    | .error f=>.error f
    | .ok (vs,l2)=>.ok (v :: vs,l2)
def preL{α:Type}(M:List α)(r:Px (List α)):Px (List α):=match r with
 | .error f=>.error f
 | .ok (vs,l)=>.ok (M ++ vs,l)
theorem zjD{α:Type}{rd:List Wd->Px α}{n:Nat}{l:List Wd}{f:Flt}(h:zaj l=.error f):zbi rd n l=.error f:=by
 cases n <;> simp[zbi,h]
theorem zg7{α:Type}{rd:List Wd->Px α}{n:Nat}{l r:List Wd}{x:Wd}(h:zaj l=.ok (x,r))(hx:pkW x=41):zbi rd n l=.ok ([],r):=by
 cases n <;> simp[zbi,h,hx]
theorem zes{α:Type}{rd:List Wd->Px α}{l r:List Wd}{x:Wd}(h:zaj l=.ok (x,r))(hx:pkW x≠41):zbi rd 0 l=if pkW x=0 then .error (3,x.pos) else .error (4,x.pos):=by
 simp[zbi,h,hx]
theorem zg9{α:Type}{rd:List Wd->Px α}{n:Nat}{l r:List Wd}{x:Wd}{f:Flt}(h:zaj l=.ok (x,r))(hx:pkW x≠41)(hr:rd l=.error f):zbi rd (n+1) l=.error f:=by
 simp[zbi,h,hx,hr]
theorem zhQ{α:Type}{rd:List Wd->Px α}{n:Nat}{l r l1:List Wd}{x:Wd}{v:α}{M:List α}(h:zaj l=.ok (x,r))(hx:pkW x≠41)(hr:rd l=.ok (v,l1)):preL M (zbi rd (n+1) l)=preL (M ++ [v]) (zbi rd n l1):=by
 simp only[zbi,h,hx,hr,if_false]
 cases zbi rd n l1 with
 | error f=>rfl
 | ok p=>
  obtain ⟨vs,l2⟩:=p;simp[preL]
def za6:Value->Nat
 | .slice _ n _=>n
 | _=>0
theorem zbq{w w':World}{base pb:Nat}{e:TypeId}{m:Nat}{v:Value}{n:Nat}{xs:List Value}(h:w.ownsRow base e m v n xs)(hm:MkO (some pb) w w')(hp:pb<base):w'.ownsRow base e m v n xs:=
 zar h fun k hk=>hm.block k (h.lt k hk).2 (fun e=>by
  injection e with e
  have:=(h.lt k hk).1
  omega)
theorem MkO.grown{w0 w w':World}{pb:Nat}{row:Option Nat}(h:MkO (some pb) w0 w)(hg:w.grownBy w' row)(hr:∀ k,row=some k->w0.heap.size<=k):MkO (some pb) w0 w':=
 ⟨h.rest.grown hg (Nat.zero_le _) (fun _ _=>Nat.zero_le _),fun g E G=>(hg.block g (Nat.lt_of_lt_of_le E h.rest.size) (fun e=>by have:=hr g e.symm;omega)).trans (h.block g E G)⟩
theorem PSt.keep{w w':World}{pb:Nat}{src:Bs}{a:Option Addr}{c:Nat}{l:List Wd}{R:List Value}(h:PSt w pb src a c l R)(hb:Below (pb+1) w w'):PSt w' pb src a c l R:=by
 obtain ⟨k,hs⟩:=h.sc;exact ⟨⟨k,(hb.block pb (by omega)).trans hs.blk,hs.src0,hs.cap,hs.len,hs.bys.keep (fun b o e=>Nat.lt_succ_of_lt (hs.far b o e)) hb,hs.far,hs.pos⟩,h.env.keep (hb.mono (by omega))⟩
abbrev Ps:=Except Flt (List Wd)
def onS{α:Type}(s:Ps)(p:List Wd->Px α):Px α:=match s with
 | .error f=>.error f
 | .ok l=>p l
def stS{α:Type}(r:Px α):Ps:=match r with
 | .error f=>.error f
 | .ok (_,l)=>.ok l
def zdf(code:Int)(s:Ps):Ps:=match s with
 | .error f=>.error f
 | .ok l=>.error (code,(l.headD ⟨0,0,[],0⟩).pos)
def zbx(s:Ps):Int:=match s with
 | .error _=>-1
 | .ok l=>match zaj l with
  | .error _=>-1
  | .ok (x,_)=>x.kind
def zaD(s:Ps):Ps:=match s with
 | .error f=>.error f
 | .ok l=>match zaj l with
  | .error f=>.error f
  | .ok _=>.ok l
def zkg(w:World)(g:Nat)(W:List Wd):Prop:=∀ (j:Nat) (x:Wd),W[j]?=some x->w.rangeAt g (j * 4) (wdV x)
def StOk(W:List Wd)(k:Nat)(code:Int)(pos:Nat)(s:Ps):Prop:=match s with
 | .ok l=>code=0/\pos=0/\W.drop k=l
 | .error f=>code=f.1/\pos=f.2/\f.1≠0
structure MB (w:World) (pb g:Nat) (W:List Wd) (c:Nat) (s:Ps) (R:List Value):Prop where
 st:∃ (k:Nat) (code:Int) (pos:Nat),w.heap[pb]?=some (.cells (.slice (some ⟨g,0,none⟩) W.length c :: .int .i64 (k:Int) :: .int .i64 code :: .int .i64 (pos:Int) :: R).toArray 64 (0,0))/\k<W.length/\StOk W k code pos s
 wds:zkg w g W
 far:g≠pb
 ok:∀ x∈W,WdOk x/\x.text.length<=20000
 ends:WsOk W
 caps:W.length<=c
 len:W.length<=20001
theorem MB.lt{w:World}{pb g:Nat}{W:List Wd}{c:Nat}{s:Ps}{R:List Value}(h:MB w pb g W c s R):pb<w.heap.size:=by
 obtain ⟨k,code,pos,E,_⟩:=h.st;exact zab E
theorem MB.glt{w:World}{pb g:Nat}{W:List Wd}{c:Nat}{s:Ps}{R:List Value}(h:MB w pb g W c s R):g<w.heap.size:=by
 obtain ⟨k,code,pos,E,hk,_⟩:=h.st;have hx:W[k]?=some W[k]:=List.getElem?_eq_getElem hk;have:=h.wds k _ hx 0 _ rfl;exact World.block_lt_of_cell? w ⟨g,_,none⟩ this
theorem zkg.block{w w':World}{g:Nat}{W:List Wd}(h:zkg w g W)(hb:w'.heap[g]?=w.heap[g]?):zkg w' g W:=fun j x hx i v hv=>(World.cell?_of_block (w:=w) hb).trans (h j x hx i v hv)
theorem MB.to{w w':World}{pb g:Nat}{W:List Wd}{c:Nat}{s s':Ps}{R R':List Value}(h:MB w pb g W c s R)(hm:MkO (some pb) w w')
  (hs:∃ (k:Nat) (code:Int) (pos:Nat),w'.heap[pb]?=some (.cells (.slice (some ⟨g,0,none⟩) W.length c :: .int .i64 (k:Int) :: .int .i64 code :: .int .i64 (pos:Int) :: R').toArray 64 (0,0))/\k<W.length/\StOk W k code pos s'):MB w' pb g W c s' R':=
 ⟨hs,h.wds.block (hm.block g h.glt (fun e=>h.far (by injection e with e;exact e.symm))),h.far,h.ok,h.ends,h.caps,h.len⟩
theorem MB.below{w w':World}{pb g:Nat}{W:List Wd}{c:Nat}{s:Ps}{R:List Value}(h:MB w pb g W c s R)(hb:Below w.heap.size w w'):MB w' pb g W c s R:=by
 obtain ⟨k,code,pos,E,hk,hs⟩:=h.st;exact h.to (MkO.of_below hb) ⟨k,code,pos,(hb.block pb h.lt).trans E,hk,hs⟩
def MPost{α:Type}(w:World)(pb g:Nat)(W:List Wd)(c:Nat)(R:List Value)(Q:α->Ending->World->Prop)(r:Px α)(e:Ending)(w':World):Prop:=MkO (some pb) w w'/\(∃ x,Q x e w'/\∀ y l,r=.ok (y,l)->y=x)/\MB w' pb g W c (stS r) R
theorem zae{w:World}{b:Nat}{L:List Value}{t:TypeId}(h:w.heap[b]?=some (.cells L.toArray t (0,0))){j:Nat}{v:Value}(hv:L[j]?=some v):w.cell? ⟨b,j,none⟩=some v:=by
 simp[World.cell?,h,hv]
theorem zax{w:World}{b:Nat}{L:Array Value}{t:TypeId}(h:w.heap[b]?=some (.cells L t (0,0)))(j:Nat):w.frozen? ⟨b,j,none⟩=false:=by
 simp[World.frozen?,h]
theorem wdrop{W l:List Wd}{k:Nat}(h:W.drop k=l)(hk:k<W.length):∃ x r,l=x :: r/\W[k]?=some x/\W.drop (k+1)=r:=by
 rw[<- h];exact ⟨W[k],W.drop (k+1),List.drop_eq_getElem_cons hk,List.getElem?_eq_getElem hk,rfl⟩
theorem zbY(w:World)(pb g:Nat)(W:List Wd)(c:Nat)(s:Ps)(R:List Value)(code:Int)(G:¬ code=0)(h:MB w pb g W c s R):Calls Tryz.prog 22 #[.pointer (some ⟨pb,0,none⟩),.int .i64 code] w fun e w'=>e=.returned (.tuple #[])/\MkO (some pb) w w'/\MB w' pb g W c (zdf code s) R:=by
 have HM:=hidX h;obtain ⟨k,cd,pos,O,hk,hs⟩:=h.st;have c0:=zae O (j:=0) rfl;have c1:=zae O (j:=1) rfl;have c2:=zae O (j:=2) rfl;have HQ:=hidX O
 cases s with
 | error f=>
  obtain ⟨rfl,rfl,af⟩:=hs;clear h O;go_enter Tryz.func22,Tryz.ntmps22;go_wp2_with fail
  go_end0
  exact ⟨rfl,MkO.refl _ _,HM.out⟩
 | ok l=>
  obtain ⟨rfl,rfl,hd⟩:=hs;obtain ⟨x,r,rfl,hx,_⟩:=wdrop hd hk;have ab:=h.lt;have hg:=h.glt;have U:=h.far;have x1:=h.wds k x hx 1 _ rfl;have HC:=hidX G;have z2:=zax O 2;have ak:=h.caps;have aj:=h.len;clear h O hd G hx;go_enter Tryz.func22,Tryz.ntmps22;go_upto_region 2 with fail
  refine zau HQ.out ?_;intro w1 X I;have E:w1.heap[pb]?=some (.cells (.slice (some ⟨g,0,none⟩) W.length c :: .int .i64 (k:Int) :: .int .i64 code :: .int .i64 ((0:Nat):Int) :: R).toArray 64 (0,0)):=by
   rw[X];simp
  have d0:=zae E (j:=0) rfl;have d1:=zae E (j:=1) rfl;have y1:w1.cell? ⟨g,k * 4+1,none⟩=some (.int .i64 (x.pos:Int)):=(I.cell (p:=⟨g,k * 4+1,none⟩) U).trans x1;have e3:=zax E 3;have d3:=zae E (j:=3) rfl;have ad:=hidX E;have Z:=hidX I;have ah:=zab E;have ag:g<w1.heap.size:=by rw[I.size];exact hg
  clear X I E c0 c1 c2 x1 z2 HQ ab hg;go_region;go_wp2_with fail
  go_end0
  refine ⟨rfl,(Z.out.mko.drew).trans (MkO.set _),?_⟩;have ae:=zap (i:=3) ad.out (.int .i64 (x.pos:Int));exact HM.out.to ((Z.out.mko.drew).trans (MkO.set _)) ⟨k,code,x.pos,ae.trans (by simp),hk,rfl,rfl,HC.out⟩
def ze5(s:Ps):Int:=match s with
 | .error f=>f.1
 | .ok _=>0
theorem MB.code{w:World}{pb g:Nat}{W:List Wd}{c:Nat}{s:Ps}{R:List Value}(h:MB w pb g W c s R):w.cell? ⟨pb,2,none⟩=some (.int .i64 (ze5 s)):=by
 obtain ⟨k,I,pos,E,hk,hs⟩:=h.st;have:=zae E (j:=2) rfl;rw[this]
 cases s with
 | error f=>obtain ⟨rfl,rfl,G⟩:=hs;rfl
 | ok l=>obtain ⟨rfl,rfl,hd⟩:=hs;rfl
theorem MB.code_err{w:World}{pb g:Nat}{W:List Wd}{c:Nat}{f:Flt}{R:List Value}(h:MB w pb g W c (.error f) R):¬ f.1=0:=by
 obtain ⟨k,E,pos,G,hk,hs⟩:=h.st;exact hs.2.2
theorem next7{x:Wd}{r:List Wd}(h:x.kind=7):zaj (x :: r)=.error (1,x.pos):=by simp[zaj,badW,h]
theorem next8{x:Wd}{r:List Wd}(h:x.kind=8):zaj (x :: r)=.error (2,x.pos):=by simp[zaj,badW,h]
theorem zrk{x:Wd}{r:List Wd}(h:¬ x.kind=7)(E:¬ x.kind=8):zaj (x :: r)=.ok (x,if x.kind=0 then x :: r else r):=by simp[zaj,badW,h,E]
theorem zaY{l:List Wd}{f:Flt}(h:zaj l=.error f):zbx (.ok l) = -1/\zaD (.ok l)=.error f:=by simp[zbx,zaD,h]
theorem look_ok{l r:List Wd}{x:Wd}(h:zaj l=.ok (x,r)):zbx (.ok l)=x.kind/\zaD (.ok l)=.ok l:=by simp[zbx,zaD,h]
def zco(w:World)(pb g:Nat)(W:List Wd)(c:Nat)(R:List Value)(s:Ps)(e:Ending)(w':World):Prop:=e=.returned (.int .i64 (zbx s))/\MkO (some pb) w w'/\MB w' pb g W c (zaD s) R
theorem zch(w:World)(pb g:Nat)(W:List Wd)(c:Nat)(s:Ps)(R:List Value)(h:MB w pb g W c s R):Calls Tryz.prog 21 #[.pointer (some ⟨pb,0,none⟩)] w (zco w pb g W c R s):=by
 have X:=hidX h;obtain ⟨k,cd,pos,hq,hk,hs⟩:=h.st;have c0:=zae hq (j:=0) rfl;have c1:=zae hq (j:=1) rfl;have c2:=h.code;have ae:=h.lt;have hg:=h.glt;have ad:=h.far;have ah:=h.caps;have ag:=h.len;obtain ⟨x,r,hl,hx,_⟩:=wdrop (l:=W.drop k) rfl hk;have x0:=h.wds k x hx 0 _ rfl;simp only[Nat.add_zero]at x0;have F1:=hidX (fun u (hu:MB u pb g W c s R)=>zbY u pb g W c s R 1 (by decide) hu);have F2:=hidX (fun u (hu:MB u pb g W c s R)=>zbY u pb g W c s R 2 (by decide) hu);obtain ⟨K,hK⟩:∃ K,K=x.kind:=⟨_,rfl⟩
 rw[<- hK]at x0;have HK:=hidX hK;have HX:=hidX hx
 cases s with
 | error f=>
  have af:=h.code_err;have O:Hid (∀ u,MkO (some pb) w u->MB u pb g W c (.error f) R->zco w pb g W c R (.error f) (.returned (.int .i64 (-1))) u):=show ∀ u,_ from fun u hm hb=>⟨rfl,hm,hb⟩
  simp only[ze5]at c2;clear h hq hs hK hx hl;by_cases h7:K=7
  ·subst h7;go_enter Tryz.func21,Tryz.ntmps21;go_upto_region 1 with fail
   go_region;go_wp2_with (first | (go_at_call 22;refine (F1.out _ (X.out.below (Below.refl _ _).drew)).mono ?_;rintro e w2 ⟨rfl,G,E⟩;have I:=E.code;simp only[zdf,ze5]at I) | fail);go_ret;exact O.out _ (MkO.trans (MkO.refl _ _).drew G) E
  ·by_cases Z:K=8
   ·subst Z;go_enter Tryz.func21,Tryz.ntmps21;go_upto_region 1 with fail
    go_region;go_wp2_with (first | (go_at_call 22;refine (F2.out _ (X.out.below (Below.refl _ _).drew)).mono ?_;rintro e w2 ⟨rfl,G,E⟩;have I:=E.code;simp only[zdf,ze5]at I) | fail);go_ret;exact O.out _ (MkO.trans (MkO.refl _ _).drew G) E
   ·go_enter Tryz.func21,Tryz.ntmps21;go_upto_region 1 with fail
    go_region;go_wp2_with fail
    go_ret;exact O.out _ (MkO.refl _ _).drew (X.out.below (Below.refl _ _).drew)
 | ok l=>
  obtain ⟨rfl,rfl,hd⟩:=hs;have ab:l=x :: r:=hd.symm.trans hl;subst ab;simp only[ze5]at c2;clear h hq hx hl hd;by_cases h7:K=7
  ·have U:=hidX (next7 (r:=r) (hK.symm.trans h7));have O:Hid (∀ u,MkO (some pb) w u->MB u pb g W c (.error (1,x.pos)) R->zco w pb g W c R (.ok (x :: r)) (.returned (.int .i64 (-1))) u):=show ∀ u,_ from fun u hm hb=>by
    unfold zco;rw[(zaY U.out).1,(zaY U.out).2];exact ⟨rfl,hm,hb⟩
   clear hK;subst h7;go_enter Tryz.func21,Tryz.ntmps21;go_upto_region 1 with fail
   go_region;go_wp2_with (first | (go_at_call 22;refine (F1.out _ (X.out.below (Below.refl _ _).drew)).mono ?_;rintro e w2 ⟨rfl,G,E⟩;have I:=E.code;simp only[zdf,ze5]at I) | fail);go_ret;exact O.out _ (MkO.trans (MkO.refl _ _).drew G) E
  by_cases Z:K=8
  ·have U:=hidX (next8 (r:=r) (hK.symm.trans Z));have O:Hid (∀ u,MkO (some pb) w u->MB u pb g W c (.error (2,x.pos)) R->zco w pb g W c R (.ok (x :: r)) (.returned (.int .i64 (-1))) u):=show ∀ u,_ from fun u hm hb=>by
    unfold zco;rw[(zaY U.out).1,(zaY U.out).2];exact ⟨rfl,hm,hb⟩
   clear hK;subst Z;go_enter Tryz.func21,Tryz.ntmps21;go_upto_region 1 with fail
   go_region;go_wp2_with (first | (go_at_call 22;refine (F2.out _ (X.out.below (Below.refl _ _).drew)).mono ?_;rintro e w2 ⟨rfl,G,E⟩;have I:=E.code;simp only[zdf,ze5]at I) | fail);go_ret;exact O.out _ (MkO.trans (MkO.refl _ _).drew G) E
  have U:=hidX (zrk (r:=r) (fun e=>h7 (hK.trans e)) (fun e=>Z (hK.trans e)));have O:Hid (∀ u,MkO (some pb) w u->MB u pb g W c (.ok (x :: r)) R->zco w pb g W c R (.ok (x :: r)) (.returned (.int .i64 K)) u):=show ∀ u,_ from fun u hm hb=>by
   unfold zco;rw[(look_ok U.out).1,(look_ok U.out).2];exact ⟨by rw[hK],hm,hb⟩
  clear hK;go_enter Tryz.func21,Tryz.ntmps21;go_upto_region 1 with fail
  go_region;go_wp2_with fail
  go_ret;exact O.out _ (MkO.refl _ _).drew (X.out.below (Below.refl _ _).drew)
theorem zgZ{t:Bs}(h:zbW t=true):gSym t=false:=by
 unfold zbW at h;simp only[Bool.and_eq_true,decide_eq_true_eq]at h
 cases t with
 | nil=>simp at h
 | cons b r=>
  have hb:b=63:=by simpa using h.1
  subst hb;unfold gSym;simp[show zj3 63=false by decide]
theorem zjQ:pkind [] = -1:=by
 unfold pkind;rw[zdt (by decide) (.inl rfl),if_neg (by decide),if_neg (by decide),if_neg (by decide),if_neg (by decide),if_neg (by decide),if_neg (by decide),if_neg (by decide)]
theorem zdU{x:Wd}(h:WdOk x):(x.kind=1 ↔ pkW x=40)/\(x.kind=2 ↔ pkW x=41)/\(x.kind=3 ↔ pkW x=48)/\(x.kind=4 ↔ pkW x=63)/\(x.kind=5 ↔ pkW x=97)/\(x.kind=0 ↔ pkW x=0):=by
 rcases h with ⟨ht,_,hk | hk | hk | hk⟩ | ⟨hk,_⟩
 ·simp[pkW,hk]
 ·simp[pkW,hk]
 ·simp[pkW,hk]
 ·have:pkW x = -1:=by simp[pkW,hk,ht,zjQ]
  rw[this,hk];decide
 obtain ⟨m0,G,E,_⟩:=zcT x.text;have hp:pkW x=pkind x.text:=by
  unfold pkW;rw[hk,if_neg m0,if_neg G,if_neg E]
 rw[hp,hk];have hv:=@zgZ x.text;unfold mkind pkind;by_cases h1:(zbj x.text).isSome=true
 ·simp[h1]
 by_cases h3:zbW x.text=true
 ·have h2:=hv h3;simp[h1,h2,h3]
 by_cases h2:gSym x.text=true
 ·simp[h1,h2,h3]
 rw[if_neg h1,if_neg h3,if_neg h2,if_neg h1,if_neg h2,if_neg h3]
 repeat' split
 all_goals decide
theorem MB.head{w:World}{pb g:Nat}{W:List Wd}{c:Nat}{l:List Wd}{R:List Value}(h:MB w pb g W c (.ok l) R):∃ x r,l=x :: r/\WdOk x/\x.text.length<=20000:=by
 obtain ⟨k,E,pos,G,hk,hs⟩:=h.st;obtain ⟨x,r,e,hx,_⟩:=wdrop hs.2.2 hk;have:=h.ok x (List.mem_of_getElem? hx);exact ⟨x,r,e,this.1,this.2⟩
theorem za8{x y:Wd}{r E:List Wd}(h:zaj (x :: r)=.ok (y,E)):y=x/\E=if x.kind=0 then x :: r else r:=by
 unfold zaj at h
 cases hb:badW x with
 | some f=>simp[hb]at h
 | none=>
  simp[hb]at h;exact ⟨h.1.symm,h.2.symm⟩
theorem znk{w:World}{pb g:Nat}{W:List Wd}{c:Nat}{s:Ps}{R:List Value}{kd pk:Int}(E:MB w pb g W c s R)(hrel:∀ x,WdOk x->(x.kind=kd ↔ pkW x=pk))(h:zbx s≠kd):∃ f,onS s (zai pk)=.error f/\zdf 3 (zaD s)=.error f:=by
 cases s with
 | error f=>exact ⟨f,rfl,rfl⟩
 | ok l=>
  obtain ⟨x,r,rfl,hx,_⟩:=E.head
  cases hr:zaj (x :: r) with
  | error f=>
   refine ⟨f,?_,?_⟩
   ·simp[onS,zai,hr]
   ·rw[(zaY hr).2];rfl
  | ok p=>
   obtain ⟨y,G⟩:=p;obtain ⟨rfl,_⟩:=za8 hr;rw[(look_ok hr).1]at h;refine ⟨(3,y.pos),?_,?_⟩
   ·simp only[onS,zai,hr];rw[if_neg (fun e=>h ((hrel y hx).2 e))]
   rw[(look_ok hr).2];rfl
theorem zlg{w:World}{pb g:Nat}{W:List Wd}{c:Nat}{s:Ps}{R:List Value}{kd pk:Int}(G:MB w pb g W c s R)(hrel:∀ x,WdOk x->(x.kind=kd ↔ pkW x=pk))(h1:kd ≠ -1)(O:kd≠0)(h:zbx s=kd):∃ x r,s=.ok (x :: r)/\x.kind=kd/\onS s (zai pk)=.ok (x,r)/\zaD s=.ok (x :: r)/\WdOk x/\x.text.length<=20000:=by
 cases s with
 | error f=>exact absurd h.symm h1
 | ok l=>
  obtain ⟨x,r,rfl,hx,hl⟩:=G.head
  cases hr:zaj (x :: r) with
  | error f=>exact absurd ((zaY hr).1.symm.trans h).symm h1
  | ok p=>
   obtain ⟨y,I⟩:=p;obtain ⟨rfl,E⟩:=za8 hr;rw[(look_ok hr).1]at h;refine ⟨y,r,rfl,h,?_,(look_ok hr).2,hx,hl⟩;simp only[onS,zai,hr];rw[if_pos ((hrel y hx).1 h),E,if_neg (by omega)]
theorem WsOk.drop{W r:List Wd}{x:Wd}{k:Nat}(h:WsOk W)(hd:W.drop k=x :: r)(hx:x.kind≠0):k+1<W.length:=by
 obtain ⟨pre,e,rfl,he,hp⟩:=h;apply Classical.byContradiction;intro G;have E:k<(pre ++ [e]).length:=by
  apply Classical.byContradiction;intro I;rw[List.drop_eq_nil_of_le (by omega)]at hd
  cases hd
 have hk:k=pre.length:=by simp at E G;omega
 rw[hk,List.drop_left]at hd;injection hd with h1 _;exact hx (h1 ▸ he)
def Rmw(x:Wd)(e:Ending)(_:World):Prop:=e=.returned (.agg (wdV x).toArray)
theorem MPost.err{α:Type}{w w':World}{pb g:Nat}{W:List Wd}{c:Nat}{R:List Value}{Q:α->Ending->World->Prop}{r:Px α}{e:Ending}{f:Flt}(x:α)(hr:r=.error f)(hm:MkO (some pb) w w')(E:Q x e w')(hb:MB w' pb g W c (.error f) R):MPost w pb g W c R Q r e w':=by
 subst hr;exact ⟨hm,⟨x,E,fun y l h=>by cases h⟩,hb⟩
theorem MPost.good{α:Type}{w w':World}{pb g:Nat}{W:List Wd}{c:Nat}{R:List Value}{Q:α->Ending->World->Prop}{r:Px α}{e:Ending}{x:α}{l:List Wd}(hr:r=.ok (x,l))(hm:MkO (some pb) w w')(E:Q x e w')(hb:MB w' pb g W c (.ok l) R):MPost w pb g W c R Q r e w':=by
 subst hr;exact ⟨hm,⟨x,E,fun y l h=>by injection h with h;injection h with h _;exact h.symm⟩,hb⟩
theorem znd:(Tryz.prog.info? 102).map (·.size)=some 4:=by kernel_rfl
def zW:Wd:=⟨0,0,[],0⟩
theorem MB.turned{w w':World}{pb g b:Nat}{W:List Wd}{c:Nat}{s:Ps}{R:List Value}(h:MB w pb g W c s R)(ht:Turned w w' b)(h1:b≠pb)(h2:b≠g):MB w' pb g W c s R:=by
 obtain ⟨k,E,pos,G,hk,hs⟩:=h.st;exact ⟨⟨k,E,pos,(ht.block pb (Ne.symm h1)).trans G,hk,hs⟩,h.wds.block (ht.block g (Ne.symm h2)),h.far,h.ok,h.ends,h.caps,h.len⟩
theorem znW{P:World->Prop}{w:World}{b:Nat}{t:TypeId}{cs:Array Value}{v0 E v2 v3:Value}(I:w.heap[b]?=some (.cells cs t (0,0)))(hs:cs.size=4)(h:∀ G,G.heap[b]?=some (.cells [v0,E,v2,v3].toArray t (0,0))->Turned w G b->P G):P (((((w.setCell ⟨b,0,none⟩ v0).setCell ⟨b,1,none⟩ E).setCell ⟨b,2,none⟩ v2).setCell ⟨b,3,none⟩ v3).drew):=by
 have h1:=za0 I (o:=0) [v0,E,v2,v3] (by simp;omega);have hd:cs.toList.drop (0+[v0,E,v2,v3].length)=[]:=List.drop_eq_nil_of_le (by simp;omega);rw[hd]at h1;have ht:=Turned.setCells [v0,E,v2,v3] 0 w b;exact h _ (h1.trans (by simp)) ⟨ht.os,ht.tape,ht.output,ht.size,ht.block⟩
theorem zbw(w:World)(pb g:Nat)(W:List Wd)(c:Nat)(s:Ps)(R:List Value)(kd pk:Int)(hrel:∀ x,WdOk x->(x.kind=kd ↔ pkW x=pk))(h1:kd ≠ -1)(h0:kd≠0)(h:MB w pb g W c s R):Calls Tryz.prog 56 #[.pointer (some ⟨pb,0,none⟩),.int .i64 kd] w (MPost w pb g W c R Rmw (onS s (zai pk))):=by
 have HM:=hidX h;have aP:=h.lt;have aM:=h.glt;have HR:=hidX hrel;have H1:=hidX h1;have H0:=hidX h0;clear h hrel h1 h0;go_enter Tryz.func56,Tryz.ntmps56;go_upto_region 1 with fail
 refine zaf ?_;intro w1 al ao;have M1:=hidX (MkO.of_below al:MkO (some pb) w w1);have O:=hidX (zch w1 pb g W c s R (HM.out.below al));have az:w.heap.size<w1.heap.size:=zab ao;have ad:=hidX ao;clear al ao;obtain ⟨K,hK⟩:∃ K,K=zbx s:=⟨_,rfl⟩
 unfold zco at O;rw[<- hK]at O;by_cases hk:K=kd
 ·obtain ⟨x,r,hs,ap,Z,aA,aS,aR⟩:=zlg HM.out HR.out H1.out H0.out (hK.symm.trans hk);have HT:=hidX Z;have aG:Hid (x.kind≠0):=show x.kind≠0 from by rw[ap];exact H0.out
  rw[aA]at O;have e1:(K != kd)=false:=by simp[hk]
  clear hk hK hs ap Z aA;go_upto_region 4 with (first | (go_at_call 21;refine O.out.mono ?_;rintro e w2 ⟨rfl,I,G⟩) | fail);obtain ⟨k,cd,pos,hq,aJ,aC,aB,hd⟩:=G.st;subst aC;subst aB;obtain ⟨x',r',e',hx,au⟩:=wdrop hd aJ;injection e' with e1' e2';subst e1';subst e2';have aH:=G.ends.drop hd aG.out;have aI:=hidX G;have aD:=I.rest.size;have ae:=(I.block w.heap.size az (fun e=>by injection e;omega)).trans ad.out;have M2:=hidX (M1.out.trans I);have d1:=zae hq (j:=1) rfl;have z1:=zax hq 1;have HQ:=hidX hq;have ax:=hidX (G.wds k x hx);have ay:=G.far;have aK:=G.caps;have aL:=G.len;have aF:=hidX au;clear G I O ad hq hd hx au;go_upto_region 5 with fail
  refine zau HQ.out ?_;intro w3 U af;replace U:w3.heap[pb]?=some (.cells (.slice (some ⟨g,0,none⟩) W.length c :: .int .i64 ((k+1:Nat):Int) :: .int .i64 0 :: .int .i64 ((0:Nat):Int) :: R).toArray 64 (0,0)):=by
   rw[U];simp
  have f0:=zae U (j:=0) rfl;have f1:=zae U (j:=1) rfl;rw[show (((k+1:Nat):Nat):Int)=(k:Int)+1 by omega]at f1;have aE:=hidX U;have ar:=hidX af;have E:=(af.block w.heap.size (by omega)).trans ae;have ak:=hidX E;have ab:=hidX (show w3.rangeAt g (k * 4) (wdV x) from fun j v hv=>(af.cell (p:=⟨g,k * 4+j,none⟩) ay).trans (ax.out j v hv));have y0:=ab.out 0 _ rfl;have y1:=ab.out 1 _ rfl;have y2:=ab.out 2 _ rfl;have y3:=ab.out 3 _ rfl;simp only[Nat.add_zero]at y0;have b0:=zae (L:=[_,_,_,_]) E (j:=0) rfl;have b1:=zae (L:=[_,_,_,_]) E (j:=1) rfl;have b2:=zae (L:=[_,_,_,_]) E (j:=2) rfl;have b3:=zae (L:=[_,_,_,_]) E (j:=3) rfl;have q0:=zax E 0;have q1:=zax E 1;have q2:=zax E 2;have q3:=zax E 3;have aQ:w.heap.size<w3.heap.size:=zab E;have aN:g<w3.heap.size:=by omega
  have aO:pb<w3.heap.size:=by omega
  clear U af ae E d1 z1 HQ ax;go_region;refine znW ak.out (by rfl) ?_;intro w4 ag X;clear f0 f1 y0 y1 y2 y3 b0 b1 b2 b3 q0 q1 q2 q3;have ah:=run_loadVar_mid (P:=Tryz.prog) w4 w.heap.size 0 102 (wdV x) _ (zal ag) Tryz.underlying102 rfl znd;go_wp2_with fail
  (try go_frame);refine bodyPost_ret (v:=.agg (wdV x).toArray) (by simp[results,Tryz.results56,asAddr,ah]) rfl (MPost.good HT.out ((M2.out.trans ar.out.mko).turn X (Nat.le_refl _)) rfl ?_);exact (aI.out.to (s':=.ok r) (R':=R) ar.out.mko ⟨k+1,0,0,aE.out,aH,rfl,rfl,aF.out⟩).turned X (by omega) (by omega)
 obtain ⟨f,Z,aq⟩:=znk HM.out HR.out (fun e=>hk (hK.trans e));have HT:=hidX Z;have e1:(K != kd)=true:=by simp[hk]
 have HF:=hidX (fun u (hu:MB u pb g W c (zaD s) R)=>zbY u pb g W c (zaD s) R 3 (by decide) hu);rw[aq]at HF;clear hk hK Z aq;go_upto_region 3 with (first | (go_at_call 21;refine O.out.mono ?_;rintro e w2 ⟨rfl,I,G⟩) | (go_at_call 22;refine (HF.out _ G).mono ?_;rintro e w3 ⟨rfl,aj,aw⟩) | fail);have ak:=hidX aw;have aD:=I.rest.size;have ae:=(aj.block w.heap.size (by omega) (fun e=>by injection e;omega)).trans ((I.block w.heap.size az (fun e=>by injection e;omega)).trans ad.out);have M3:=hidX ((M1.out.trans I).trans aj);clear I G aj aw O HF ad;go_wp2_with (first | (refine zac (by rfl) 102 (.tmp 4) (.tmp 11) (by rfl) w.heap.size (wdV zW) (by rfl) (by rfl) _ 102 ae (by rfl) znd (zeU _) ?_;intro w4 ag X) | fail);have ah:=run_loadVar_mid (P:=Tryz.prog) w4 w.heap.size 0 102 (wdV zW) _ (zal ag.out) Tryz.underlying102 rfl znd
 go_frame
 refine bodyPost_ret (v:=.agg (wdV zW).toArray) (by simp[results,Tryz.results56,asAddr,ah]) rfl (MPost.err zW HT.out (M3.out.turn X.out (Nat.le_refl _)) rfl (ak.out.turned X.out (by omega) (by omega)))
def oneM(kd:Int)(T:List Bs)(l:List Wd):Px Bs:=match zaj l with
 | .error f=>.error f
 | .ok (x,r)=>if x.kind=kd/\x.text∈T then .ok (x.text,r) else .error (3,x.pos)
def TxAt(w:World)(lb:Nat)(T:List Bs):Prop:=∀ (j:Nat) (t:Bs),T[j]?=some t->w.cell? ⟨lb,j,none⟩=some (.string (mkS t))
theorem TxAt.block{w w':World}{lb:Nat}{T:List Bs}(h:TxAt w lb T)(hb:w'.heap[lb]?=w.heap[lb]?):TxAt w' lb T:=fun j t ht=>(World.cell?_of_block (w:=w) hb).trans (h j t ht)
theorem TxAt.strs{w:World}{lb:Nat}{T:List Bs}(h:TxAt w lb T):zcl none w (some ⟨lb,0,none⟩) (T.map mkS):=zcl.of fun j x hx=>by
 rw[Nat.zero_add];exact h j x hx
def kOf(W r:List Wd):Nat:=W.length - (r.length+1)
theorem MB.cells{w:World}{pb g:Nat}{W:List Wd}{c:Nat}{x:Wd}{r:List Wd}{R:List Value}(h:MB w pb g W c (.ok (x :: r)) R):w.heap[pb]?=some (.cells (.slice (some ⟨g,0,none⟩) W.length c :: .int .i64 (kOf W r:Int) :: .int .i64 0 :: .int .i64 ((0:Nat):Int) :: R).toArray 64 (0,0))/\kOf W r<W.length/\w.rangeAt g (kOf W r * 4) (wdV x)/\W.drop (kOf W r)=x :: r/\W.drop (kOf W r+1)=r:=by
 obtain ⟨k,G,pos,E,hk,rfl,rfl,hd⟩:=h.st;have hl:k=kOf W r:=by
  have:=congrArg List.length hd;simp at this;unfold kOf;omega
 obtain ⟨O,I,e,hx,hr⟩:=wdrop hd hk;injection e with e1 e2;subst e1;subst e2;rw[<- hl];exact ⟨E,hk,h.wds k x hx,hd,hr⟩
theorem zrF{w:World}{pb g:Nat}{W:List Wd}{c:Nat}{s:Ps}{R:List Value}{kd:Int}{T:List Bs}(E:MB w pb g W c s R)(h:zbx s≠kd):∃ f,onS s (oneM kd T)=.error f/\zdf 3 (zaD s)=.error f:=by
 cases s with
 | error f=>exact ⟨f,rfl,rfl⟩
 | ok l=>
  obtain ⟨x,r,rfl,hx,_⟩:=E.head
  cases hr:zaj (x :: r) with
  | error f=>
   refine ⟨f,?_,?_⟩
   ·simp[onS,oneM,hr]
   ·rw[(zaY hr).2];rfl
  | ok p=>
   obtain ⟨y,G⟩:=p;obtain ⟨rfl,_⟩:=za8 hr;rw[(look_ok hr).1]at h;refine ⟨(3,y.pos),?_,?_⟩
   ·simp only[onS,oneM,hr];rw[if_neg (fun e=>h e.1)]
   rw[(look_ok hr).2];rfl
theorem zcj{w:World}{pb g:Nat}{W:List Wd}{c:Nat}{s:Ps}{R:List Value}{kd:Int}(I:MB w pb g W c s R)(h1:kd ≠ -1)(O:kd≠0)(h:zbx s=kd):∃ x r,s=.ok (x :: r)/\x.kind=kd/\zaj (x :: r)=.ok (x,r)/\zaD s=.ok (x :: r)/\WdOk x/\x.text.length<=20000:=by
 cases s with
 | error f=>exact absurd h.symm h1
 | ok l=>
  obtain ⟨x,r,rfl,hx,hl⟩:=I.head
  cases hr:zaj (x :: r) with
  | error f=>exact absurd ((zaY hr).1.symm.trans h).symm h1
  | ok p=>
   obtain ⟨y,G⟩:=p;obtain ⟨rfl,E⟩:=za8 hr;rw[(look_ok hr).1]at h;rw[if_neg (by omega)]at E;subst E;exact ⟨y,G,rfl,h,hr,(look_ok hr).2,hx,hl⟩
theorem MB.next{w w':World}{pb g:Nat}{W:List Wd}{c:Nat}{x:Wd}{r:List Wd}{R:List Value}(h:MB w pb g W c (.ok (x :: r)) R)(hx:x.kind≠0)(ht:Turned w w' pb)(E:w'.heap[pb]?=some (.cells (.slice (some ⟨g,0,none⟩) W.length c :: .int .i64 ((kOf W r+1:Nat):Int) :: .int .i64 0 :: .int .i64 ((0:Nat):Int) :: R).toArray 64 (0,0))):MB w' pb g W c (.ok r) R:=by
 obtain ⟨_,hk,_,hd,hr⟩:=h.cells;exact h.to (s':=.ok r) (R':=R) ht.mko ⟨kOf W r+1,0,0,E,h.ends.drop hd hx,rfl,rfl,hr⟩
theorem zfc(w:World)(pb g lb ct:Nat)(W:List Wd)(c:Nat)(s:Ps)(R:List Value)(kd:Int)(T:List Bs)(h1:kd ≠ -1)(h0:kd≠0)(hT:TxAt w lb T)(aB:lb≠pb)(aA:lb<w.heap.size)(aQ:T.length<=100)(h:MB w pb g W c s R):Calls Tryz.prog 57 #[.pointer (some ⟨pb,0,none⟩),.int .i64 kd,.slice (some ⟨lb,0,none⟩) T.length ct] w (MPost w pb g W c R Rs1 (onS s (oneM kd T))):=by
 have HM:=hidX h;have aO:=h.lt;have aL:=h.glt;have az:=h.far;have aJ:=h.caps;have aK:=h.len;have H1:=hidX h1;have H0:=hidX h0;have HT:=hidX hT;have ad:=hidX (fun u (hu:MB u pb g W c s R)=>zch u pb g W c s R hu);obtain ⟨K,hK⟩:∃ K,K=zbx s:=⟨_,rfl⟩
 unfold zco at ad;rw[<- hK]at ad;clear h h1 h0 hT;by_cases hk:K=kd
 ·obtain ⟨x,r,hs,ap,aj,aC,aR,aP⟩:=zcj HM.out H1.out H0.out (hK.symm.trans hk);have aH:Hid (x.kind≠0):=show x.kind≠0 from by rw[ap];exact H0.out
  have aG:=hidX ap;have ay:=hidX aj;rw[aC]at ad;have e1:(K != kd)=false:=by simp[hk]
  subst hs;obtain ⟨hq,aI,ab,hd,ar⟩:=HM.out.cells;have c0:=zae hq (j:=0) rfl;have c1:=zae hq (j:=1) rfl;have c2:=ab 2 _ rfl;have ae:=hidX (fun u (hu:TxAt u lb T)=>(zeu (mkS x.text) (some ⟨lb,0,none⟩) ct (T.map mkS) u hu.strs (by rw[List.length_map];omega)));rw[ziK,zbX,List.length_map]at ae;obtain ⟨k,aq⟩:∃ k,k=kOf W r:=⟨_,rfl⟩
  rw[<- aq]at c1 c2 aI;have al:=hidX aq;clear hk hK ap aj aC hq ab hd ar aq;by_cases ht:x.text∈T
  ·have ak:Hid (onS (.ok (x :: r)) (oneM kd T)=.ok (x.text,r)):=show _=_ from by simp only[onS,oneM,ay.out];rw[if_pos ⟨aG.out,ht⟩]
   have e2:decide (x.text∈T)=true:=decide_eq_true ht;rw[e2]at ae;clear ht e2;go_enter Tryz.func57,Tryz.ntmps57;go_upto_region 1 with fail
   refine wp_region_noPanic ?_;refine wp_region_held_drew (S:=(fun u=>u.cell? ⟨pb,0,none⟩=some (.slice (some ⟨g,0,none⟩) W.length c)/\u.cell? ⟨pb,1,none⟩=some (.int .i64 (k:Int))/\u.cell? ⟨g,k * 4+2,none⟩=some (.string (mkS x.text)))) (by kernel_rfl) ?_ (fun E=>?_)
   ·(try dsimp only);exact ⟨c0,c1,c2⟩
   refine tk 0 E ?_;(try simp only[pA,pZ,pS]);refine tk 2 E ?_;(try simp only[pA,pZ,pS]);refine r1 1 fun K hK=>?_;go_simp;(go_at_call 21;refine (ad.out _ (HM.out.below (Below.refl _ _).drew)).mono ?_;rintro e w2 ⟨rfl,I,G⟩;have af:=HT.out.block (w':=w2) (I.block lb aA (fun e=>aB (by injection e with e;exact e.symm)));have O:=G.cells.1;have X:=G.cells.2.2.1 2 _ rfl;rw[<- al.out]at O X;have u0:=zae O (j:=0) rfl;have u1:=zae O (j:=1) rfl;clear O);(try go_wp2_with fail);refine hK.out _ _ (by (try dsimp only);exact ⟨u0,u1,X⟩) fun Z=>?_;replace E:=Z;clear hK K Z;(try simp only[pA,pZ,pS,pN]);refine tk 3 E ?_;(try simp only[pA,pZ,pS]);refine tk 4 E ?_;(try simp only[pA,pZ,pS]);refine tk 5 E ?_;(try simp only[pA,pZ,pS]);refine tk 6 E ?_;(try simp only[pA,pZ,pS]);refine tk 7 E ?_;(try simp only[pA,pZ,pS]);refine tk 8 E ?_;(try simp only[pA,pZ,pS]);refine tk 9 E ?_;(try simp only[pA,pZ,pS]);refine tk 10 E ?_;(try simp only[pA,pZ,pS]);refine tk 11 E ?_;(try simp only[pA,pZ,pS]);refine tk 12 E ?_;(try simp only[pA,pZ,pS]);refine tk 13 E ?_;(try simp only[pA,pZ,pS]);refine tk 14 E ?_;(try simp only[pA,pZ,pS]);refine tk 15 E ?_;(try simp only[pA,pZ,pS]);refine tk 16 E ?_;(try simp only[pA,pZ,pS]);refine r1 17 fun K hK=>?_;go_simp;(go_at_call 68;refine (ae.out _ af).mono ?_;rintro e aE ⟨rfl,rfl⟩);(try go_wp2_with fail);refine hK.out _ _ (by (try dsimp only);exact ⟨u0,u1,X⟩) fun Z=>?_;replace E:=Z;clear hK K Z;(try simp only[pA,pZ,pS,pN]);refine tk 18 E ?_;(try simp only[pA,pZ,pS]);refine tk 19 E ?_;(try simp only[pA,pZ,pS]);refine wpAnyH_done (by kernel_rfl) ?_ _;refine NoPanic.normal ?_;(try dsimp only);obtain ⟨hq,ao,ab,hd,ar⟩:=G.cells;rw[<- al.out]at hq ao ab;have d1:=zae hq (j:=1) rfl;have z1:=zax hq 1;have HQ:=hidX hq;have aD:=hidX ab;have ag:=hidX G;have M2:=hidX I;have aF:=I.rest.size;clear hq ab hd ar G I c0 c1 c2 af ao;go_upto_region 5 with fail
   refine zau HQ.out ?_;intro w3 U ah;replace U:w3.heap[pb]?=some (.cells (.slice (some ⟨g,0,none⟩) W.length c :: .int .i64 ((k+1:Nat):Int) :: .int .i64 0 :: .int .i64 ((0:Nat):Int) :: R).toArray 64 (0,0)):=by
    rw[U];simp
   have f0:=zae U (j:=0) rfl;have f1:=zae U (j:=1) rfl;rw[show (((k+1:Nat):Nat):Int)=(k:Int)+1 by omega]at f1;have y2:=(ah.cell (p:=⟨g,k * 4+2,none⟩) az).trans (aD.out 2 _ rfl);rw[al.out]at U;have B3:=hidX (ag.out.next aH.out ah U);have M3:=hidX ((MkO.refl (some pb) w).drew.trans (M2.out.trans ah.mko));have aN:=zab U;have aM:g<w3.heap.size:=by have:=ah.size;simp at aF;omega
   clear U ah d1 z1 HQ aD;go_region;go_wp2_with fail
   go_ret;exact MPost.good ak.out M3.out.drew rfl (B3.out.below (Below.refl _ _).drew)
  have ak:Hid (onS (.ok (x :: r)) (oneM kd T)=.error (3,x.pos)):=show _=_ from by simp only[onS,oneM,ay.out];rw[if_neg (fun e=>ht e.2)]
  have e2:decide (x.text∈T)=false:=decide_eq_false ht;rw[e2]at ae;clear ht e2;have HF:=hidX (fun u (hu:MB u pb g W c (.ok (x :: r)) R)=>zbY u pb g W c (.ok (x :: r)) R 3 (by decide) hu);go_enter Tryz.func57,Tryz.ntmps57;go_upto_region 1 with fail
  refine wp_region_noPanic ?_;refine wp_region_held_drew (S:=(fun u=>u.cell? ⟨pb,0,none⟩=some (.slice (some ⟨g,0,none⟩) W.length c)/\u.cell? ⟨pb,1,none⟩=some (.int .i64 (k:Int))/\u.cell? ⟨g,k * 4+2,none⟩=some (.string (mkS x.text)))) (by kernel_rfl) ?_ (fun E=>?_)
  ·(try dsimp only);exact ⟨c0,c1,c2⟩
  refine tk 0 E ?_;(try simp only[pA,pZ,pS]);refine tk 2 E ?_;(try simp only[pA,pZ,pS]);refine r1 1 fun K hK=>?_;go_simp;(go_at_call 21;refine (ad.out _ (HM.out.below (Below.refl _ _).drew)).mono ?_;rintro e w2 ⟨rfl,I,G⟩;have af:=HT.out.block (w':=w2) (I.block lb aA (fun e=>aB (by injection e with e;exact e.symm)));have O:=G.cells.1;have X:=G.cells.2.2.1 2 _ rfl;rw[<- al.out]at O X;have u0:=zae O (j:=0) rfl;have u1:=zae O (j:=1) rfl;clear O);(try go_wp2_with fail);refine hK.out _ _ (by (try dsimp only);exact ⟨u0,u1,X⟩) fun Z=>?_;replace E:=Z;clear hK K Z;(try simp only[pA,pZ,pS,pN]);refine tk 3 E ?_;(try simp only[pA,pZ,pS]);refine tk 4 E ?_;(try simp only[pA,pZ,pS]);refine tk 5 E ?_;(try simp only[pA,pZ,pS]);refine tk 6 E ?_;(try simp only[pA,pZ,pS]);refine tk 7 E ?_;(try simp only[pA,pZ,pS]);refine tk 8 E ?_;(try simp only[pA,pZ,pS]);refine tk 9 E ?_;(try simp only[pA,pZ,pS]);refine tk 10 E ?_;(try simp only[pA,pZ,pS]);refine tk 11 E ?_;(try simp only[pA,pZ,pS]);refine tk 12 E ?_;(try simp only[pA,pZ,pS]);refine tk 13 E ?_;(try simp only[pA,pZ,pS]);refine tk 14 E ?_;(try simp only[pA,pZ,pS]);refine tk 15 E ?_;(try simp only[pA,pZ,pS]);refine tk 16 E ?_;(try simp only[pA,pZ,pS]);refine r1 17 fun K hK=>?_;go_simp;(go_at_call 68;refine (ae.out _ af).mono ?_;rintro e aE ⟨rfl,rfl⟩);(try go_wp2_with fail);refine hK.out _ _ (by (try dsimp only);exact ⟨u0,u1,X⟩) fun Z=>?_;replace E:=Z;clear hK K Z;(try simp only[pA,pZ,pS,pN]);refine tk 18 E ?_;(try simp only[pA,pZ,pS]);refine tk 19 E ?_;(try simp only[pA,pZ,pS]);refine wpAnyH_done (by kernel_rfl) ?_ _;refine NoPanic.normal ?_;(try dsimp only);have ag:=hidX G;have M2:=hidX ((MkO.refl (some pb) w).drew.trans I);clear G I c0 c1 c2 af;go_wp2_with (first | (go_at_call 22;refine (HF.out _ ag.out).mono ?_;rintro e w3 ⟨rfl,au,aw⟩) | fail);go_ret;exact MPost.err [] ak.out (M2.out.trans au) rfl aw
 obtain ⟨f,aj,ax⟩:=zrF (T:=T) HM.out (fun e=>hk (hK.trans e));have ak:=hidX aj;have e1:(K != kd)=true:=by simp[hk]
 have HF:=hidX (fun u (hu:MB u pb g W c (zaD s) R)=>zbY u pb g W c (zaD s) R 3 (by decide) hu);rw[ax]at HF;clear hk hK aj ax;go_enter Tryz.func57,Tryz.ntmps57;go_upto_region 1 with fail
 refine wp_region_noPanic ?_;refine wp_region_held_drew (S:=(fun _=>True)) (by kernel_rfl) ?_ (fun E=>?_)
 ·(try dsimp only)
  all_goals trivial
 refine tk 0 E ?_;(try simp only[pA,pZ,pS]);refine tk 2 E ?_;(try simp only[pA,pZ,pS]);refine r1 1 fun K hK=>?_;go_simp;(go_at_call 21;refine (ad.out _ (HM.out.below (Below.refl _ _).drew)).mono ?_;rintro e w2 ⟨rfl,I,G⟩);(try go_wp2_with fail);refine hK.out _ _ (by (try dsimp only);all_goals trivial) fun Z=>?_;replace E:=Z;clear hK K Z;(try simp only[pA,pZ,pS,pN]);refine tk 3 E ?_;(try simp only[pA,pZ,pS]);refine tk 4 E ?_;(try simp only[pA,pZ,pS]);refine tn 5 E ?_;refine tn 6 E ?_;refine tn 7 E ?_;refine tn 8 E ?_;(try simp only[pA,pZ,pS]);refine tn 9 E ?_;refine tn 10 E ?_;refine tn 11 E ?_;refine tn 12 E ?_;(try simp only[pA,pZ,pS]);refine tn 13 E ?_;refine tn 14 E ?_;refine tn 15 E ?_;refine tn 16 E ?_;(try simp only[pA,pZ,pS]);refine tn 17 E ?_;refine tn 18 E ?_;(try simp only[pA,pZ,pS]);refine tk 19 E ?_;(try simp only[pA,pZ,pS]);refine wpAnyH_done (by kernel_rfl) ?_ _;refine NoPanic.normal ?_;(try dsimp only);have ag:=hidX G;have M2:=hidX ((MkO.refl (some pb) w).drew.trans I);clear G I;go_wp2_with (first | (go_at_call 22;refine (HF.out _ ag.out).mono ?_;rintro e w3 ⟨rfl,au,aw⟩) | fail);go_ret;exact MPost.err [] ak.out (M2.out.trans au) rfl aw
theorem mfield2(x0 x1 x2 x3:Value)(w:World):(Instr.field 102 (.agg #[x0,x1,x2,x3]) 2).run Tryz.prog w=.ok x2 w:=by kernel_rfl
theorem mfield3(x0 x1 x2 x3:Value)(w:World):(Instr.field 102 (.agg #[x0,x1,x2,x3]) 3).run Tryz.prog w=.ok x3 w:=by kernel_rfl
def wdA(x:Wd):Value:=.agg #[.int .i64 x.kind,.int .i64 (x.pos:Int),.string (mkS x.text),.int .i64 x.num]
theorem zf9{x:Wd}(h:WdOk x)(hk:x.kind=5):ptW x=x.text:=by
 rcases h with ⟨ht,_,E | E | E | E⟩ | ⟨hm,_⟩
 ·omega
 ·omega
 ·omega
 ·omega
 have hn:¬ (zbj x.text).isSome=true:=fun e=>by
  rw[hk]at hm;unfold mkind at hm;rw[if_pos e]at hm;exact absurd hm (by decide)
 have hg:gSym x.text=true:=by
  apply Classical.byContradiction;intro hg;rw[hk]at hm;unfold mkind at hm;rw[if_neg hn,if_neg hg]at hm
  revert hm
  repeat' split
  all_goals decide
 unfold ptW;rw[hk,if_neg (by decide),if_neg (by decide),if_neg (by decide)];unfold ptext;rw[if_neg hn,if_pos hg]
theorem rel97:∀ x,WdOk x->(x.kind=5 ↔ pkW x=97):=fun _ h=>(zdU h).2.2.2.2.1
theorem rel48:∀ x,WdOk x->(x.kind=3 ↔ pkW x=48):=fun _ h=>(zdU h).2.2.1
theorem rel40:∀ x,WdOk x->(x.kind=1 ↔ pkW x=40):=fun _ h=>(zdU h).1
theorem rel41:∀ x,WdOk x->(x.kind=2 ↔ pkW x=41):=fun _ h=>(zdU h).2.1
theorem znG{w:World}{pb g:Nat}{W:List Wd}{c:Nat}{s:Ps}{R:List Value}(h:MB w pb g W c s R){α:Type}(p:List Wd->Px α)(hp:∀ l f,zaj l=.error f->p l=.error f):onS (zaD s) p=onS s p:=by
 cases s with
 | error f=>rfl
 | ok l=>
  cases hr:zaj l with
  | error f=>
   rw[(zaY hr).2];simp[onS,hp l f hr]
  | ok q=>
   obtain ⟨x,r⟩:=q;rw[(look_ok hr).2]
theorem zpE{pk:Int}:∀ l f,zaj l=.error f->zai pk l=.error f:=fun l f h=>by unfold zai;rw[h]
theorem zmK{l:List Wd}{f:Flt}(h:zai 97 l=.error f):za3 l=.error f:=by unfold za3;rw[h]
theorem znU{s:Ps}{f:Flt}(h:onS s (zai 97)=.error f):onS s za3=.error f:=by
 cases s with
 | error E=>injection h with h;rw[h];rfl
 | ok l=>exact zmK h
theorem zh0(w:World)(pb g:Nat)(W:List Wd)(c:Nat)(s:Ps)(R:List Value)(h:MB w pb g W c s R):Calls Tryz.prog 105 #[.pointer (some ⟨pb,0,none⟩)] w (MPost w pb g W c R Rs1 (onS s za3)):=by
 have aJ:=mfield2;have HM:=hidX h;have aH:=h.lt;have aG:=h.glt;have aD:=h.far;have aE:=h.caps;have aF:=h.len;have Z:=hidX (fun u (hu:MB u pb g W c s R)=>zch u pb g W c s R hu);obtain ⟨K,hK⟩:∃ K,K=zbx s:=⟨_,rfl⟩
 unfold zco at Z;rw[<- hK]at Z;clear h;by_cases hk:K=5
 ·obtain ⟨x,r,hs,ak,ab,aw,aq,aI⟩:=zcj HM.out (by decide) (by decide) (hK.symm.trans hk);have ao:=hidX (zf9 aq ak);have al:Hid (zai 97 (x :: r)=.ok (x,r)):=show _=_ from by unfold zai;rw[ab];simp only;rw[if_pos ((rel97 x aq).1 ak)]
  rw[aw]at Z;have e1:(K==5)=true:=by simp[hk]
  subst hs;obtain ⟨hq,aC,au,hd,az⟩:=HM.out.cells;have c0:=zae hq (j:=0) rfl;have c1:=zae hq (j:=1) rfl;have c2:=au 2 _ rfl;obtain ⟨k,ap⟩:∃ k,k=kOf W r:=⟨_,rfl⟩
  rw[<- ap]at c1 c2 aC;have ar:=hidX ap;have U:=zbB (mkS x.text) notT;rw[zbX]at U;clear hk hK ak ab aw hq au hd az ap;by_cases ht:x.text=notT
  ·have aj:Hid (onS (.ok (x :: r)) za3=.error (3,x.pos)):=show _=_ from by simp only[onS,za3,al.out];rw[if_pos (ao.out.trans ht)]
   have HF:=hidX (fun u (hu:MB u pb g W c (.ok (x :: r)) R)=>zbY u pb g W c (.ok (x :: r)) R 3 (by decide) hu);have X:=hidX (fun u (hu:MB u pb g W c (.error (3,x.pos)) R)=>zbw u pb g W c (.error (3,x.pos)) R 5 97 rel97 (by decide) (by decide) hu);rw[decide_eq_true ht]at U;replace U:((mkS x.text).toList==[110,111,116])=true:=U;clear ht;go_enter Tryz.func105,Tryz.ntmps105;go_upto_region 1 with fail
   refine wp_region_noPanic ?_;refine wp_region_held_drew (S:=(fun u=>u.cell? ⟨pb,0,none⟩=some (.slice (some ⟨g,0,none⟩) W.length c)/\u.cell? ⟨pb,1,none⟩=some (.int .i64 (k:Int))/\u.cell? ⟨g,k * 4+2,none⟩=some (.string (mkS x.text)))) (by kernel_rfl) ?_ (fun E=>?_)
   ·(try dsimp only);exact ⟨c0,c1,c2⟩
   refine tk 0 E ?_;(try simp only[pA,pZ,pS]);refine r1 1 fun K hK=>?_;go_simp;(go_at_call 21;refine (Z.out _ (HM.out.below (Below.refl _ _).drew)).mono ?_;rintro e w2 ⟨rfl,O,G⟩;have I:=G.cells.1;have ah:=G.cells.2.2.1 2 _ rfl;rw[<- ar.out]at I ah;have u0:=zae I (j:=0) rfl;have u1:=zae I (j:=1) rfl;clear I);(try go_wp2_with fail);refine hK.out _ _ (by (try dsimp only);exact ⟨u0,u1,ah⟩) fun hQ=>?_;replace E:=hQ;clear hK K hQ;(try simp only[pA,pZ,pS,pN]);refine tk 2 E ?_;(try simp only[pA,pZ,pS]);refine tk 3 E ?_;(try simp only[pA,pZ,pS]);refine tk 4 E ?_;(try simp only[pA,pZ,pS]);refine tk 5 E ?_;(try simp only[pA,pZ,pS]);refine tk 6 E ?_;(try simp only[pA,pZ,pS]);refine tk 7 E ?_;(try simp only[pA,pZ,pS]);refine tk 8 E ?_;(try simp only[pA,pZ,pS]);refine tk 9 E ?_;(try simp only[pA,pZ,pS]);refine tk 10 E ?_;(try simp only[pA,pZ,pS]);refine tk 11 E ?_;(try simp only[pA,pZ,pS]);refine tk 12 E ?_;(try simp only[pA,pZ,pS]);refine tk 13 E ?_;(try simp only[pA,pZ,pS]);refine tk 14 E ?_;(try simp only[pA,pZ,pS]);refine tk 15 E ?_;(try simp only[pA,pZ,pS]);refine tk 16 E ?_;(try simp only[pA,pZ,pS]);refine wpAnyH_done (by kernel_rfl) ?_ _;refine NoPanic.normal ?_;(try dsimp only);have af:=hidX G;have M2:=hidX ((MkO.refl (some pb) w).drew.trans O);clear G O c0 c1 c2;go_wp2_with (first | (go_at_call 22;refine (HF.out _ af.out).mono ?_;rintro e w3 ⟨rfl,aA,aB⟩) | (go_at_call 56;refine (X.out _ aB).mono ?_;rintro e w4 ⟨ag,⟨y,ad,_⟩,ae⟩;obtain rfl:e=.returned (wdA y):=ad;unfold wdA) | fail);go_ret;exact MPost.err y.text aj.out ((M2.out.trans aA).trans ag) rfl ae
  have aj:Hid (onS (.ok (x :: r)) za3=.ok (x.text,r)):=show _=_ from by simp only[onS,za3,al.out];rw[if_neg (fun e=>ht (ao.out.symm.trans e)),ao.out]
  have X:=hidX (fun u (hu:MB u pb g W c (.ok (x :: r)) R)=>zbw u pb g W c (.ok (x :: r)) R 5 97 rel97 (by decide) (by decide) hu);simp only[onS,al.out]at X;rw[decide_eq_false ht]at U;replace U:((mkS x.text).toList==[110,111,116])=false:=U;clear ht;go_enter Tryz.func105,Tryz.ntmps105;go_upto_region 1 with fail
  refine wp_region_noPanic ?_;refine wp_region_held_drew (S:=(fun u=>u.cell? ⟨pb,0,none⟩=some (.slice (some ⟨g,0,none⟩) W.length c)/\u.cell? ⟨pb,1,none⟩=some (.int .i64 (k:Int))/\u.cell? ⟨g,k * 4+2,none⟩=some (.string (mkS x.text)))) (by kernel_rfl) ?_ (fun E=>?_)
  ·(try dsimp only);exact ⟨c0,c1,c2⟩
  refine tk 0 E ?_;(try simp only[pA,pZ,pS]);refine r1 1 fun K hK=>?_;go_simp;(go_at_call 21;refine (Z.out _ (HM.out.below (Below.refl _ _).drew)).mono ?_;rintro e w2 ⟨rfl,O,G⟩;have I:=G.cells.1;have ah:=G.cells.2.2.1 2 _ rfl;rw[<- ar.out]at I ah;have u0:=zae I (j:=0) rfl;have u1:=zae I (j:=1) rfl;clear I);(try go_wp2_with fail);refine hK.out _ _ (by (try dsimp only);exact ⟨u0,u1,ah⟩) fun hQ=>?_;replace E:=hQ;clear hK K hQ;(try simp only[pA,pZ,pS,pN]);refine tk 2 E ?_;(try simp only[pA,pZ,pS]);refine tk 3 E ?_;(try simp only[pA,pZ,pS]);refine tk 4 E ?_;(try simp only[pA,pZ,pS]);refine tk 5 E ?_;(try simp only[pA,pZ,pS]);refine tk 6 E ?_;(try simp only[pA,pZ,pS]);refine tk 7 E ?_;(try simp only[pA,pZ,pS]);refine tk 8 E ?_;(try simp only[pA,pZ,pS]);refine tk 9 E ?_;(try simp only[pA,pZ,pS]);refine tk 10 E ?_;(try simp only[pA,pZ,pS]);refine tk 11 E ?_;(try simp only[pA,pZ,pS]);refine tk 12 E ?_;(try simp only[pA,pZ,pS]);refine tk 13 E ?_;(try simp only[pA,pZ,pS]);refine tk 14 E ?_;(try simp only[pA,pZ,pS]);refine tk 15 E ?_;(try simp only[pA,pZ,pS]);refine tk 16 E ?_;(try simp only[pA,pZ,pS]);refine wpAnyH_done (by kernel_rfl) ?_ _;refine NoPanic.normal ?_;(try dsimp only);have af:=hidX G;have M2:=hidX ((MkO.refl (some pb) w).drew.trans O);clear G O c0 c1 c2;go_wp2_with (first | (go_at_call 56;refine (X.out _ af.out).mono ?_;rintro e w4 ⟨ag,⟨y,ad,ay⟩,ae⟩;obtain rfl:x=y:=ay _ _ rfl;obtain rfl:e=.returned (wdA x):=ad;unfold wdA) | fail);go_ret;exact MPost.good aj.out (M2.out.trans ag) rfl ae
 obtain ⟨f,ab,ax⟩:=znk (pk:=97) HM.out rel97 (fun e=>hk (hK.trans e));have aj:=hidX (znU ab);have e1:(K==5)=false:=by simp[hk]
 have X:=hidX (fun u (hu:MB u pb g W c (zaD s) R)=>zbw u pb g W c (zaD s) R 5 97 rel97 (by decide) (by decide) hu);rw[znG HM.out _ zpE,ab]at X;clear hk hK ab ax;go_enter Tryz.func105,Tryz.ntmps105;go_upto_region 1 with fail
 refine wp_region_noPanic ?_;refine wp_region_held_drew (S:=(fun _=>True)) (by kernel_rfl) ?_ (fun E=>?_)
 ·(try dsimp only)
  all_goals trivial
 refine tk 0 E ?_;(try simp only[pA,pZ,pS]);refine r1 1 fun K hK=>?_;go_simp;(go_at_call 21;refine (Z.out _ (HM.out.below (Below.refl _ _).drew)).mono ?_;rintro e w2 ⟨rfl,O,G⟩);(try go_wp2_with fail);refine hK.out _ _ (by (try dsimp only);all_goals trivial) fun hQ=>?_;replace E:=hQ;clear hK K hQ;(try simp only[pA,pZ,pS,pN]);refine tk 2 E ?_;(try simp only[pA,pZ,pS]);refine tk 3 E ?_;(try simp only[pA,pZ,pS]);refine tn 4 E ?_;refine tn 5 E ?_;refine tn 6 E ?_;refine tn 7 E ?_;(try simp only[pA,pZ,pS]);refine tn 8 E ?_;refine tn 9 E ?_;refine tn 10 E ?_;refine tn 11 E ?_;(try simp only[pA,pZ,pS]);refine tn 12 E ?_;refine tn 13 E ?_;refine tn 14 E ?_;refine tn 15 E ?_;(try simp only[pA,pZ,pS]);refine tk 16 E ?_;(try simp only[pA,pZ,pS]);refine wpAnyH_done (by kernel_rfl) ?_ _;refine NoPanic.normal ?_;(try dsimp only);have af:=hidX G;have M2:=hidX ((MkO.refl (some pb) w).drew.trans O);clear G O;go_wp2_with (first | (go_at_call 56;refine (X.out _ af.out).mono ?_;rintro e w4 ⟨ag,⟨y,ad,_⟩,ae⟩;obtain rfl:e=.returned (wdA y):=ad;unfold wdA) | fail);go_ret;exact MPost.err y.text aj.out (M2.out.trans ag) rfl ae
def zdl(n m:Int)(s:Ps):Bool:=!(decide (zbx s = -1) || (decide (zbx s=2) || (decide (zbx s=0) || decide (m<=n))))
def zb8(n m:Int)(s:Ps):Ps:=if zbx s = -1∨zbx s=2 then zaD s else if zbx s=0 then zdf 3 (zaD s) else if m<=n then zdf 4 (zaD s) else zaD s
def znO(w:World)(pb g:Nat)(W:List Wd)(c:Nat)(R:List Value)(n m:Int)(s:Ps)(e:Ending)(w':World):Prop:=e=.returned (.bool (zdl n m s))/\MkO (some pb) w w'/\MB w' pb g W c (zb8 n m s) R
theorem zjf(w:World)(pb g:Nat)(W:List Wd)(c:Nat)(s:Ps)(R:List Value)(n m:Int)(h:MB w pb g W c s R):Calls Tryz.prog 106 #[.pointer (some ⟨pb,0,none⟩),.int .i64 n,.int .i64 m] w (znO w pb g W c R n m s):=by
 have I:=hidX (zch w pb g W c s R h);obtain ⟨K,hK⟩:∃ K,K=zbx s:=⟨_,rfl⟩
 unfold zco at I;rw[<- hK]at I;have ad:=hidX (fun u (hu:MB u pb g W c (zaD s) R)=>zbY u pb g W c (zaD s) R 3 (by decide) hu);have ab:=hidX (fun u (hu:MB u pb g W c (zaD s) R)=>zbY u pb g W c (zaD s) R 4 (by decide) hu);clear h;by_cases h1:K = -1
 ·have O:Hid (zdl n m s=false/\zb8 n m s=zaD s):=show _/\_ from ⟨by simp[zdl,<- hK,h1],by simp[zb8,<- hK,h1]⟩;clear hK;subst h1;go_enter Tryz.func106,Tryz.ntmps106;go_wp2_with (first | (go_at_call 21;refine I.out.mono ?_;rintro e w2 ⟨rfl,E,G⟩) | fail);go_ret;exact ⟨by rw[O.out.1];rfl,E,by rw[O.out.2];exact G⟩
 by_cases h2:K=2
 ·have O:Hid (zdl n m s=false/\zb8 n m s=zaD s):=show _/\_ from ⟨by simp[zdl,<- hK,h2],by simp[zb8,<- hK,h2]⟩;clear hK h1;subst h2;go_enter Tryz.func106,Tryz.ntmps106;go_wp2_with (first | (go_at_call 21;refine I.out.mono ?_;rintro e w2 ⟨rfl,E,G⟩) | fail);go_ret;exact ⟨by rw[O.out.1];rfl,E,by rw[O.out.2];exact G⟩
 by_cases Z:K=0
 ·have O:Hid (zdl n m s=false/\zb8 n m s=zdf 3 (zaD s)):=show _/\_ from ⟨by simp[zdl,<- hK,Z],by simp[zb8,<- hK,Z]⟩;clear hK h1 h2;subst Z;go_enter Tryz.func106,Tryz.ntmps106;go_wp2_with (first | (go_at_call 21;refine I.out.mono ?_;rintro e w2 ⟨rfl,E,G⟩) | (go_at_call 22;refine (ad.out _ G).mono ?_;rintro e w3 ⟨rfl,U,X⟩) | fail);go_ret;exact ⟨by rw[O.out.1];rfl,E.trans U,by rw[O.out.2];exact X⟩
 by_cases hm:m<=n
 ·have O:Hid (zdl n m s=false/\zb8 n m s=zdf 4 (zaD s)):=show _/\_ from ⟨by simp[zdl,<- hK,hm],by unfold zb8;rw[<- hK,if_neg (by omega),if_neg Z,if_pos hm]⟩;clear hK;go_enter Tryz.func106,Tryz.ntmps106;go_wp2_with (first | (go_at_call 21;refine I.out.mono ?_;rintro e w2 ⟨rfl,E,G⟩) | (go_at_call 22;refine (ab.out _ G).mono ?_;rintro e w3 ⟨rfl,U,X⟩) | fail);go_ret;exact ⟨by rw[O.out.1];rfl,E.trans U,by rw[O.out.2];exact X⟩
 have O:Hid (zdl n m s=true/\zb8 n m s=zaD s):=show _/\_ from ⟨by simp[zdl,<- hK,h1,h2,Z,hm],by unfold zb8;rw[<- hK,if_neg (by omega),if_neg Z,if_neg hm]⟩;clear hK;go_enter Tryz.func106,Tryz.ntmps106;go_wp2_with (first | (go_at_call 21;refine I.out.mono ?_;rintro e w2 ⟨rfl,E,G⟩) | fail);go_ret;exact ⟨by rw[O.out.1];rfl,E,by rw[O.out.2];exact G⟩
structure Cd where
 kind:Int
 n:Int
 cls:ByteArray
 slots:List V
def cdL(x:Cd)(v:Value):List Value:=[.int .i64 x.kind,.int .i64 x.n,.string x.cls,v]
theorem zbR{w w':World}{base g:Nat}{e t:TypeId}{m:Nat}{v:Value}{n:Nat}{xs:List Value}{c:Array Value}(h:w.ownsRow base e m v n xs)(ht:Turned w w' g)(hb:w.heap[g]?=some (.cells c t (0,0)))(G:t≠e):w'.ownsRow base e m v n xs:=
 zar h fun k hk=>ht.block k (fun e=>by
  subst e
  obtain ⟨c',E⟩:=zaA h hk
  exact zcM hb E G)
end Go.Proofs.YtjjjagepnnbebaaGreatDoor
namespace Go.Proofs.YtjjjagepnnbebaaGreatDoor
open Go.RowKit Go.Maps
attribute [local go_sem ↓] Go.wp_at_zero Go.wp_at_succ
def fnR(pb:Nat)(v:Value):Option (DataW Unit × List MemPlace):=match v with
 | .nilFunc=>some (.lit (.bool true),[])
 | .func (.func i) a b=>match a.toList,b.toList with
  | [.pointer (some ⟨q,0,none⟩)],[]=>if q=pb then some (.lit (.int .i64 (i:Int)),[]) else none
  | _,_=>none
 | _=>none
def mth(pb i:Nat):Value:=.func (.func i) #[.pointer (some ⟨pb,0,none⟩)] #[]
theorem zq8(pb i:Nat):fnR pb (mth pb i)=some (.lit (.int .i64 (i:Int)),[]):=by
 simp[fnR,mth]
theorem zq0{pb:Nat}{v:Value}{ps:List MemPlace}(h:fnR pb v=some (.lit (.bool true),ps)):v=.nilFunc:=by
 unfold fnR at h;split at h
 ·rfl
 ·split at h
  ·split at h
   ·injection h with h;injection h with h;injection h with h
    cases h
   cases h
  ·cases h
 cases h
theorem zrg{pb i:Nat}{v:Value}{ps:List MemPlace}(h:fnR pb v=some (.lit (.int .i64 (i:Int)),ps)):v=mth pb i:=by
 unfold fnR at h;split at h
 ·injection h with h;injection h with h;injection h with h
  cases h
 ·rename_i j a b;split at h
  ·rename_i q ha hb;split at h
   ·rename_i E;simp only[Option.some.injEq,Prod.mk.injEq,DataW.lit.injEq,Lit.int.injEq,true_and]at h;subst E;have e1:a=#[.pointer (some ⟨q,0,none⟩)]:=by
     apply Array.ext';simpa using ha
    have e2:b=#[]:=by
     apply Array.ext';simpa using hb
    have hj:j=i:=Int.ofNat_inj.1 h.1;rw[e1,e2,hj];rfl
   cases h
  ·cases h
 cases h
def FInv(f:Bs->Option Nat)(D:DataW Unit):Prop:=∀ s:Bs,(has D (.string s)=(f s).isSome)/\∀ i z,f s=some i->D.atKey (.string s) z=.lit (.int .i64 (i:Int))
theorem FInv.start:FInv (fun _=>none) (.map []):=fun _=>⟨rfl,fun _ _ h=>by cases h⟩
theorem FInv.put{f:Bs->Option Nat}{D:DataW Unit}(h:FInv f D)(hm:IsMap D)(k:Bs)(i:Nat):FInv (fun s=>if s=k then some i else f s) (D.put (.string k) (.lit (.int .i64 (i:Int)))):=by
 intro s;by_cases hs:s=k
 ·subst hs;refine ⟨?_,fun j z hj=>?_⟩
  ·rw[has_put_same hm (k:=.string s) trivial];simp
  simp at hj;subst hj;rw[atKey_put_same hm (k:=.string s) trivial]
 have E:(Lit.string s)≠.string k:=fun e=>hs (by injection e);refine ⟨?_,fun j z hj=>?_⟩
 ·rw[has_put_other E,(h s).1];simp[hs]
 rw[atKey_put_other E];exact (h s).2 j z (by simpa[hs] using hj)
def zdX(w:World)(pb mb:Nat)(f:Bs->Option Nat):Prop:=∃ n D,n<=8/\w.ownsMap Tryz.prog 9 (fnR pb) mb n D/\FInv f D
theorem zdX.block{w w':World}{pb mb:Nat}{f:Bs->Option Nat}(h:zdX w pb mb f)(hb:w'.heap[mb]?=w.heap[mb]?):zdX w' pb mb f:=by
 obtain ⟨n,D,hn,⟨es,E,h1,h2⟩,hf⟩:=h;exact ⟨n,D,hn,⟨es,E,hb.trans h1,h2⟩,hf⟩
theorem zdX.lt{w:World}{pb mb:Nat}{f:Bs->Option Nat}(h:zdX w pb mb f):mb<w.heap.size:=by
 obtain ⟨n,D,_,⟨es,E,h1,_⟩,_⟩:=h;exact zab h1
theorem zdX.mko{w w':World}{pb mb:Nat}{f:Bs->Option Nat}(h:zdX w pb mb f)(hm:MkO (some pb) w w')(E:pb≠mb):zdX w' pb mb f:=h.block (hm.block mb h.lt (fun e=>E (by injection e)))
theorem zrX:Keyed Tryz.prog 9:=string_keyed Tryz.underlying9
theorem znx{w:World}{pb mb:Nat}{f:Bs->Option Nat}{t e:TypeId}(ht:Tryz.prog.underlying t=some (.map 9 e))(hz:∀ w,(zeroValue e).run Tryz.prog w=.ok .nilFunc w)(h:zdX w pb mb f){s:Bs}(hs:s.length<=20000) :
  (Instr.lookup t (.map (some mb)) (.string (mkS s)) true).run Tryz.prog w=.ok (.tuple #[(match f s with | some i=>mth pb i | none=>.nilFunc),.bool (f s).isSome]) w:=by
 obtain ⟨n,D,_,ho,hf⟩:=h;have hsz:(mkS s).size<=maxLen:=by rw[zad];unfold maxLen;omega
 obtain ⟨v,ps,E,hv⟩:=ho.look_ok zrX (t:=t) ht (hz w) (show fnR pb .nilFunc=some (.lit (.bool true),[]) from rfl) (Go.WideMaps.keyOf_string_mk Tryz.underlying9 hsz);have I:(mkS s).data.toList=s:=rfl;rw[I]at E hv;rw[E,(hf s).1]
 cases G:f s with
 | none=>
  have O:has D (.string s)=false:=by rw[(hf s).1,G];rfl
  rw[atKey_of_not_has O]at hv;rw[zq0 hv]
 | some i=>
  rw[(hf s).2 i _ G]at hv;rw[zrg hv]
def zkH:Bs:=[97,115,115,101,114,116]
def ziG:Bs:=[114,101,116,114,97,99,116]
def zkL:Bs:=[109,111,100,105,102,121]
def runT:Bs:=[114,117,110]
def cmdF(s:Bs):Option Nat:=if s=runT then some 43 else if s=zkL then some 42 else if s=ziG then some 41 else if s=zkH then some 40 else none
theorem ziT{kd:Int}{l r:List Wd}{x:Wd}(h:zai kd l=.ok (x,r)):zaj l=.ok (x,r)/\pkW x=kd:=by
 unfold zai at h
 cases hr:zaj l with
 | error f=>rw[hr]at h;cases h
 | ok p=>
  obtain ⟨y,t⟩:=p;rw[hr]at h;simp only at h;by_cases hk:pkW y=kd
  ·rw[if_pos hk]at h;injection h with h;rw[h];injection h with h1 h2;subst h1;exact ⟨rfl,hk⟩
  rw[if_neg hk]at h
  cases h
theorem PSt.text{w:World}{pb:Nat}{src:Bs}{a:Option Addr}{c:Nat}{l r:List Wd}{R:List Value}{x:Wd}(h:PSt w pb src a c l R)(hr:zaj l=.ok (x,r)):(ptW x).length<=20000:=by
 obtain ⟨k,hs⟩:=h.sc;obtain ⟨G,E,_,hw⟩:=hs.pos;have h1:=((zf2 src G E).1 x (by rw[hw];exact zc4 hr)).2;have h2:=zr3 x;have h3:=hs.len;omega
theorem PSt.cell{w:World}{pb j:Nat}{src:Bs}{a:Option Addr}{c:Nat}{l:List Wd}{R:List Value}{v:Value}(h:PSt w pb src a c l R)(hj:R[j]?=some v):w.cell? ⟨pb,j+2,none⟩=some v:=by
 obtain ⟨k,hs⟩:=h.sc;simp[World.cell?,hs.blk,hj]
def PaQ(Q:Exit->Act->World->Prop)(T:List PanicEntry->World->Prop):Exit->Act->World->Prop
 | .panic c,a,w=>a.defers=[]/\T c w
 | e,a,w=>Q e a w
theorem PaQ.imp{Q:Exit->Act->World->Prop}{T:List PanicEntry->World->Prop}(E:∀ c a w,a.defers=[]->T c w->Q (.panic c) a w):∀ (e:Exit) (a:Act) (w:World),PaQ Q T e a w->Q e a w:=fun e a w h=>by
 cases e <;> first | exact h | exact E _ _ _ h.1 h.2
theorem zeo{P:Program}{id:Nat}{ops:Array Oper}{b:Bool}{Q:Exit->Act->World->Prop}(T:List PanicEntry->World->Prop){a:Act}{w:World}(E:∀ c a w,a.defers=[]->T c w->Q (.panic c) a w)(h:(Code.region id ops b).wp P (PaQ Q T) a w):(Code.region id ops b).wp P Q a w:=
 Code.wp_mono (PaQ.imp E) h
theorem tkP{P:Program}{l:List Oper}{Q:Exit->Act->World->Prop}{T:List PanicEntry->World->Prop}{G:Region.Mode}{S:World->Prop}(i:Nat){I:Oper}{v:Value}{E:Nat}{listed:Array Bool}{a:Act}{w:World}(hS:S w)
  (h:wpAnyH P G l.toArray (PaQ Q T) S E (listed.setIfInBounds i true) (a.put I.dst v) w) (hi:l[i]?=some I:=by rfl)
  (hs:Region.noSelect l.toArray=true:=by kernel_rfl) (hf:Region.free G l.toArray listed i=true:=by kernel_rfl) (hr:(Region.ready G l.toArray listed).contains i=true:=by kernel_rfl)
  (hw:Region.wanted I (yielded l.toArray a.tmps)=true:=by rfl) (hy:∀ w,S w->(execOp a.eval I).run P w=.ok (.value v) w:=by intro w O;(try dsimp only at O);go_simp;try with_reducible rfl):wpAnyH P G l.toArray (PaQ Q T) S (E+1) listed a w:=
 wpAnyH_take (List.getElem?_toArray.trans hi) hs hf hr (fun _ a _ h=>⟨by have h1:=h.1;unfold Act.put at h1;split at h1 <;> exact h1,h.2⟩) (.inl ⟨hw,hy⟩) hS h
theorem zel{l r:List Wd}{x:Wd}{k:Int}(h:zaj l=.ok (x,r))(hx:pkW x≠k):zai k l=.error (3,x.pos):=by
 unfold zai;rw[h];simp[hx]
abbrev CdX:=Cd × Value
def cdC(x:CdX):List Value:=cdL x.1 x.2
def CdP(w:World)(B:Nat)(x:CdX):Prop:=∃ la lc,x.2=.slice la x.1.slots.length lc/\w.ownsRow B 93 3 x.2 x.1.slots.length (x.1.slots.flatMap V.cells)
structure CO (w:World) (B:Nat) (a:Option Addr) (c:Nat) (M:List CdX):Prop where
 row:w.ownsRow B 135 4 (.slice a M.length c) M.length (M.flatMap cdC)
 all:∀ x∈M,CdP w B x
 pair:M.Pairwise fun x y=>Apart x.2 y.2
theorem CO.nil(w:World)(B:Nat):CO w B none 0 []:=⟨World.ownsRow_nil _ _ _ _,fun x hx=>by simp at hx,List.Pairwise.nil⟩
def RL(am cm rv lv ev bv:Value):List Value:=[am,cm,rv,lv,ev,bv]
theorem PSt.list{w w':World}{pb:Nat}{src:Bs}{a:Option Addr}{c:Nat}{l:List Wd}{am cm rv lv ev bv v:Value}(h:PSt w pb src a c l (RL am cm rv lv ev bv))(hv:w'=w.setCell ⟨pb,5,none⟩ v):PSt w' pb src a c l (RL am cm rv v ev bv):=by
 subst hv;obtain ⟨k,hs⟩:=h.sc;have hb:Below pb w (w.setCell ⟨pb,5,none⟩ v):=(Turned.setCells [v] 5 w pb).below (Nat.le_refl pb);obtain ⟨O,G,I,E⟩:=hs.pos;refine ⟨⟨k,⟨?_,rfl,hs.cap,hs.len,hs.bys.keep hs.far hb,hs.far,O,G,?_,E⟩⟩,h.env.keep hb⟩
 ·have:=zap (i:=5) hs.blk v;rw[this];simp[RL]
 simpa using I
def FnM(w:World)(pb mb n:Nat)(f:Bs->Option Nat):Prop:=∃ D,w.ownsMap Tryz.prog 9 (fnR pb) mb n D/\FInv f D
theorem FnM.put{w:World}{pb mb n:Nat}{f:Bs->Option Nat}{t e:TypeId}(h:FnM w pb mb n f)(ht:Tryz.prog.underlying t=some (.map 9 e))(hn:n<=8)(k:Bs)(hk:k.length<=20000)(i:Nat):∃ w',(Instr.mapUpdate t (.map (some mb)) (.string (mkS k)) (mth pb i)).run Tryz.prog w=.ok () w'/\FnM w' pb mb (n+1) (fun s=>if s=k then some i else f s)/\w.grownBy w' (some mb):=by
 obtain ⟨D,ho,hf⟩:=h;have hsz:(mkS k).size<=maxLen:=by rw[zad];unfold maxLen;omega
 obtain ⟨w',hr,E,hg⟩:=ho.update zrX (t:=t) ht (by unfold maxLen;omega) (Go.WideMaps.keyOf_string_mk Tryz.underlying9 hsz) (zq8 pb i);exact ⟨w',hr,⟨_,E,hf.put ho.isMap k i⟩,hg⟩
theorem FnM.made(w:World)(pb:Nat):FnM (w.alloc (.map #[] 0)) pb w.heap.size 0 (fun _=>none):=⟨_,World.ownsMap_made (H:=Unit) w Tryz.prog 9 (fnR pb),FInv.start⟩
theorem FnM.four{w:World}{pb mb:Nat}{t e:TypeId}(h:FnM w pb mb 0 (fun _=>none))(ht:Tryz.prog.underlying t=some (.map 9 e))(O Z I X:Bs)(i1 i2 i3 i4:Nat)(hk:O.length<=20000/\Z.length<=20000/\I.length<=20000/\X.length<=20000):∃ U w2 w3 E,
  (Instr.mapUpdate t (.map (some mb)) (.string (mkS O)) (mth pb i1)).run Tryz.prog w=.ok () U/\(Instr.mapUpdate t (.map (some mb)) (.string (mkS Z)) (mth pb i2)).run Tryz.prog U=.ok () w2/\(Instr.mapUpdate t (.map (some mb)) (.string (mkS I)) (mth pb i3)).run Tryz.prog w2=.ok () w3/\(Instr.mapUpdate t (.map (some mb)) (.string (mkS X)) (mth pb i4)).run Tryz.prog w3=.ok () E /\
  zdX E pb mb (fun s=>if s=X then some i4 else if s=I then some i3 else if s=Z then some i2 else if s=O then some i1 else none)/\MkO (some mb) w E:=by
 obtain ⟨U,r1,h1,g1⟩:=h.put ht (by omega) O hk.1 i1;obtain ⟨w2,r2,h2,g2⟩:=h1.put ht (by omega) Z hk.2.1 i2;obtain ⟨w3,r3,h3,g3⟩:=h2.put ht (by omega) I hk.2.2.1 i3;obtain ⟨E,r4,⟨D,h4,f4⟩,g4⟩:=h3.put ht (by omega) X hk.2.2.2 i4;have G:∀ {u v:World},u.grownBy v (some mb)->MkO (some mb) u v:=fun hg=>⟨(Below.refl _ _).grown hg (Nat.zero_le _) (fun _ _=>Nat.zero_le _),fun g hl ab=>hg.block g hl (fun e=>ab e.symm)⟩
 exact ⟨U,w2,w3,E,r1,r2,r3,r4,⟨4,D,by omega,h4,f4⟩,(((G g1).trans (G g2)).trans (G g3)).trans (G g4)⟩
def addT:Bs:=[97,100,100]
def zdV:Bs:=[100,114,111,112]
def modT:Bs:=[109,111,100]
def zd6:Bs:=[104,97,108,116]
def actF(s:Bs):Option Nat:=if s=zd6 then some 39 else if s=modT then some 38 else if s=zdV then some 37 else if s=addT then some 36 else none
def zmX(a:Option Addr)(n c:Nat)(w:World)(e:Ending)(w':World):Prop:=e=.returned (.pointer (some ⟨w.heap.size,0,none⟩))/\Below w.heap.size w w'/\∃ am cm,w'.heap[w.heap.size]?=some (.cells (.slice a n c :: .int .i64 0 :: RL (.map (some am)) (.map (some cm)) (.slice none 0 0) (.slice none 0 0) (.slice none 0 0) (.int .i64 0)).toArray 56 (0,0))/\zdX w' w.heap.size am actF/\zdX w' w.heap.size cm cmdF/\w.heap.size<am/\w.heap.size<cm
theorem ziB(a:Option Addr)(n c:Nat)(w:World):Calls Tryz.prog 15 #[.slice a n c] w (zmX a n c w):=by
 have aC:∀ (fn:Fn) (first cap:Array Value) (w:World),(Instr.makeFunc fn first cap).run Tryz.prog w=.ok (.func fn first cap) w:=fun _ _ _ _=>rfl;have aG:=fun w=>run_makeMap (P:=Tryz.prog) 52 w;have aA:=fun w=>run_makeMap (P:=Tryz.prog) 53 w;go_enter Tryz.func15,Tryz.ntmps15;go_upto_region 2 with fail
 refine zaf ?_;intro w0 aq ao;have aw:=hidX aq;have af:w.heap.size<w0.heap.size:=zab ao;obtain ⟨v1,v2,v3,v4,r1,r2,r3,X,Z,ah⟩:=(FnM.made w0 w.heap.size).four (t:=52) Tryz.underlying52 addT zdV modT zd6 36 37 38 39 (by decide);unfold mth at r1 r2 r3 X;simp only[mkS,addT,zdV,modT,zd6]at r1 r2 r3 X;have ad:Below w0.heap.size w0 v4:=((Below.refl _ _).alloc (Nat.le_refl _) _).trans (ah.below (by simp) (fun g e=>by injection e;omega));have E:=(ad.block w.heap.size af).trans ao;have aj:=hidX Z;have ap:=hidX ad;have y4:v4.cell? ⟨w.heap.size,2,none⟩=some (.map none):=by simp[World.cell?,E]
 have z4:v4.frozen? ⟨w.heap.size,2,none⟩=false:=by simp[World.frozen?,E]
 have aF:w0.heap.size<v4.heap.size:=Z.lt;clear Z ah ad aq;go_upto_region 3 with fail
 refine zau E ?_;intro O ak G;have ar:=hidX (aj.out.block (G.block w0.heap.size (by omega)));have aD:=hidX (ap.out);have aB:v4.heap.size<=O.heap.size:=Nat.le_of_eq G.size.symm;have au:=hidX G;clear r1 r2 r3 X E y4 z4 G aj;obtain ⟨u1,u2,u3,u4,r1,r2,r3,X,U,al⟩:=(FnM.made O w.heap.size).four (t:=53) Tryz.underlying53 zkH ziG zkL runT 40 41 42 43 (by decide);unfold mth at r1 r2 r3 X;simp only[mkS,zkH,ziG,zkL,runT]at r1 r2 r3 X;have I:Below O.heap.size O u4:=((Below.refl _ _).alloc (Nat.le_refl _) _).trans (al.below (by simp) (fun g e=>by injection e;omega));have ab:=(I.block w.heap.size (by omega)).trans ak;have ay:=hidX U;have ag:=hidX (ar.out.block (I.block w0.heap.size (by omega)));have az:=hidX I;have y6:u4.cell? ⟨w.heap.size,3,none⟩=some (.map none):=by simp[World.cell?,ab]
 have z6:u4.frozen? ⟨w.heap.size,3,none⟩=false:=by simp[World.frozen?,ab]
 have aE:O.heap.size<u4.heap.size:=U.lt;clear U al I ak;go_upto_region 4 with fail
 refine zau ab ?_;intro w7 ax ae;clear r1 r2 r3 X y6 z6;go_wp2_with fail
 go_ret;refine ⟨rfl,?_,w0.heap.size,O.heap.size,?_,ag.out.block (ae.block w0.heap.size (by omega)),ay.out.block (ae.block O.heap.size (by omega)),af,by omega⟩
 ·have b1:Below w.heap.size w v4:=aw.out.trans (ap.out.mono (by omega));have b2:Below w.heap.size w O:=b1.trans (au.out.below (Nat.le_refl _));have b3:Below w.heap.size w u4:=b2.trans (az.out.mono (by omega));exact b3.trans (ae.below (Nat.le_refl _))
 rw[ax];rfl
theorem zmX.ready{src:Bs}{a:Option Addr}{c:Nat}{w w':World}{am cm:Nat}(I:w'.heap[w.heap.size]?=some (.cells (.slice a src.length c :: .int .i64 0 :: RL (.map (some am)) (.map (some cm)) (.slice none 0 0) (.slice none 0 0) (.slice none 0 0) (.int .i64 0)).toArray 56 (0,0)))(hb:Below w.heap.size w w')(hv:zbZ w a src)(G:src.length<=c)(hl:src.length<=20000)(E:∀ b o,a=some ⟨b,o,none⟩->b<w.heap.size)(hE:zfl w w.heap.size):PSt w' w.heap.size src a c (zbd src) (RL (.map (some am)) (.map (some cm)) (.slice none 0 0) (.slice none 0 0) (.slice none 0 0) (.int .i64 0)):=
 ⟨⟨0,I,rfl,G,hl,hv.below hb,E,0,Nat.zero_le _,rfl,rfl⟩,hE.keep hb⟩
end Go.Proofs.YtjjjagepnnbebaaGreatDoor
