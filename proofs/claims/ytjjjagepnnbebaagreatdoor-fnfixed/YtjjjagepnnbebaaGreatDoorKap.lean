/-
  OUR OWN TEXT. Sx3, Sx4, Sx5, Sx6, Sx7, Sx8, one behind the other.
-/
import Derived.Test.YtjjjagepnnbebaaGreatDoorKam
import Derived.Test.YtjjjagepnnbebaaGreatDoorSc2m
import Derived.Deep.DeepCutAuto
import Derived.Test.YtjjjagepnnbebaaGreatDoorKai
import Derived.Test.YtjjjagepnnbebaaGreatDoorHwm
import Derived.Test.YtjjjagepnnbebaaGreatDoorKaj
import Derived.Test.YtjjjagepnnbebaaGreatDoorShgm
import Derived.WalkSmall
import Derived.Test.YtjjjagepnnbebaaGreatDoorKac
set_option maxHeartbeats 6400000
set_option maxRecDepth 100000
namespace Go.Proofs.YtjjjagepnnbebaaGreatDoor
open Go.RowKit
attribute [local go_sem ↓] Go.wp_at_zero Go.wp_at_succ
def arTx:List Bs:=[[43],[45],[42],[47],[37]]
def zbW(s:Bs):Bool:=decide (s.head?=some 63) && gSym s.tail
def za7(s:Bs):Bool:=decide (s=[95]) || (decide (s=[61,62]) || (decide (s∈opTx) || decide (s∈arTx)))
def mkind(s:Bs):Int:=if (zbj s).isSome then 3 else if zbW s then 4 else if gSym s then 5 else if za7 s then 6 else 8
def mnum(s:Bs):Int:=(zbj s).getD 0
theorem zcl.of{w:World}{g o:Nat}{l:List Bs}(h:∀ (j:Nat) x,l[j]?=some x->w.cell? ⟨g,o+j,none⟩=some (.string (mkS x))):zcl none w (some ⟨g,o,none⟩) (l.map mkS):=by
 intro i x hx;rw[List.getElem?_map]at hx;obtain ⟨y,hy,rfl⟩:=Option.map_eq_some_iff.1 hx;refine ⟨g,o,[.string (mkS y)],rfl,Qb.bare _ _ _,rfl,?_,rfl⟩;intro j v hj;have E:j=0:=by
  have:=(List.getElem?_eq_some_iff.1 hj).1;simp at this;exact this
 subst E;simp at hj;subst hj;simpa using h i y hy
theorem ziK(s:ByteArray)(l:List Bs):memB s (l.map mkS)=decide (bsOf s∈l):=by
 induction l with
 | nil=>rfl
 | cons x r E=>
  have h1:memB s ((x :: r).map mkS)=(decide (mkS x=s) || memB s (r.map mkS)):=rfl;rw[h1,E];by_cases h:mkS x=s
  ·have:bsOf s=x:=by rw[<- h];rfl
   simp[h,this]
  have:¬ bsOf s=x:=fun e=>h (by rw[<- e,zb2]);simp[h,this]
theorem zcu.strs{w:World}{g:Nat}(h:zcu w g 0):zcl none w (some ⟨g,0,none⟩) (opTx.map mkS):=
 zcl.of fun j x hx=>by
  have hj:j<6:=(List.getElem?_eq_some_iff.1 hx).1
  have:=h j hj
  rw[List.getD,hx]at this
  exact this
theorem zkj(w:World):zcl none (w.alloc (.cells #[.string ⟨#[43]⟩,.string ⟨#[45]⟩,.string ⟨#[42]⟩,.string ⟨#[47]⟩,.string ⟨#[37]⟩] 9)) (some ⟨w.heap.size,0,none⟩) (arTx.map mkS):=
 zcl.of fun j x hx=>by
  have hj:j<5:=(List.getElem?_eq_some_iff.1 hx).1
  rcases (show j=0∨j=1∨j=2∨j=3∨j=4 by omega) with rfl | rfl | rfl | rfl | rfl <;> (cases hx;simp[go_sem];rfl)
theorem byte63{b:UInt8}:((b.toNat:Int)=63) ↔ b=63:=by
 constructor
 ·intro h;exact UInt8.toNat_inj.1 (by have:(63:UInt8).toNat=63:=rfl;omega)
 rintro rfl;rfl
theorem zbB(s:ByteArray)(l:Bs):(s.toList==l)=decide (bsOf s=l):=by
 rw[ByteArray.toList_eq];by_cases h:bsOf s=l
 ·rw[decide_eq_true h];exact beq_iff_eq.2 h
 rw[decide_eq_false h];exact beq_eq_false_iff_ne.2 h
theorem IPost.got{s:Bs}{w w':World}{e:Ending}{n:Int}(h:IPost s w e w')(hn:zbj s=some n):e=.returned (.tuple #[.int .i64 n,.bool true])/\Below w.heap.size w w':=by
 obtain ⟨m,b,rfl,E,hb⟩:=h;rw[hn]at E
 cases b with
 | true=>
  have:n=m:=by simpa using E
  subst this;exact ⟨rfl,hb⟩
 | false=>cases E
theorem IPost.not{s:Bs}{w w':World}{e:Ending}(h:IPost s w e w')(hn:zbj s=none):∃ m,e=.returned (.tuple #[.int .i64 m,.bool false])/\Below w.heap.size w w':=by
 obtain ⟨m,b,rfl,E,hb⟩:=h;rw[hn]at E
 cases b with
 | true=>cases E
 | false=>exact ⟨m,rfl,hb⟩
theorem zhU(s:ByteArray)(w:World)(hs:s.size<=20000)(h0:0<s.size):Calls Tryz.prog 55 #[.string s] w fun e w'=>e=.returned (.tuple #[.int .i64 (mkind (bsOf s)),.int .i64 (mnum (bsOf s))])/\Below w.heap.size w w':=by
 have ak:s.size<=maxLen:=by unfold maxLen;omega
 have i0:(0:Int)<(s.size:Int):=by omega
 have i1:(1:Int)<=(s.size:Int):=by omega
 have HI:=hidX (zmV s w hs)
 cases hn:zbj (bsOf s) with
 | some n=>
  have HK:Hid (mkind (bsOf s)=3/\mnum (bsOf s)=n):=show _/\_ from by simp[mkind,mnum,hn]
  have HN:=hidX hn;clear hn;go_enter Tryz.func55,Tryz.ntmps55;go_wp2_with (go_at_call 102;refine HI.out.mono ?_;intro e w1 hp;obtain ⟨rfl,E⟩:=hp.got HN.out;clear hp)
  go_ret2
  exact ⟨by rw[HK.out.1,HK.out.2];rfl,E⟩
 | none=>
  have HM:Hid (mnum (bsOf s)=0):=show _=_ from by simp[mnum,hn]
  have HN:=hidX hn;by_cases hv:zbW (bsOf s)=true
  ·have HK:Hid (mkind (bsOf s)=4):=show _=_ from by simp[mkind,hn,hv]
   have af:=hv;unfold zbW at af;simp only[Bool.and_eq_true,decide_eq_true_eq]at af;have h63:(s[0].toNat:Int)=63:=by
    have:=af.1;rw[zeK s h0]at this;exact byte63.2 (by injection this)
   have HG:Hid (∀ w',Calls Tryz.prog 64 #[.string (s.extract 1 s.size)] w' fun e I=>e=.returned (.bool true)/\I=w'):=fun w'=>by
    have h1:=zbp (s.extract 1 s.size) w' (by unfold maxLen;simp;omega);have e:(s.extract 1 s.size).data.toList=(bsOf s).tail:=zey s h0;rw[e,af.2]at h1;exact h1
   clear hn hv af;go_enter Tryz.func55,Tryz.ntmps55;go_wp2_with (first | (go_at_call 102;refine HI.out.mono ?_;intro e w1 hp;obtain ⟨m,rfl,E⟩:=hp.not HN.out;clear hp) | (go_at_call 64;refine (HG.out _).mono ?_;rintro e w2 ⟨rfl,rfl⟩))
   go_ret2
   exact ⟨by rw[HK.out,HM.out];rfl,E⟩
  have ag:zbW (bsOf s)=false:=by simpa using hv
  have G:Hid (∀ w',Calls Tryz.prog 64 #[.string s] w' fun e I=>e=.returned (.bool (gSym (bsOf s)))/\I=w'):=fun w'=>zbp s w' ak;have HG:Hid (∀ w',Calls Tryz.prog 64 #[.string (s.extract 1 s.size)] w' fun e I=>e=.returned (.bool (gSym (bsOf s).tail))/\I=w'):=fun w'=>by
   have h1:=zbp (s.extract 1 s.size) w' (by unfold maxLen;simp;omega);have e:(s.extract 1 s.size).data.toList=(bsOf s).tail:=zey s h0;rw[e]at h1;exact h1
  have HQ:Hid ((s[0].toNat:Int)=63->gSym (bsOf s).tail=false):=fun h=>by
   unfold zbW at ag;rw[zeK s h0,byte63.1 h]at ag;simpa using ag
  have ad:Hid (mkind (bsOf s)=if gSym (bsOf s) then 5 else if za7 (bsOf s) then 6 else 8):=show _=_ from by simp[mkind,hn,ag]
  clear hn hv ag;obtain ⟨tg,aj⟩:∃ b,b=gSym (bsOf s).tail:=⟨_,rfl⟩
  rw[<- aj]at HG HQ;clear aj
  cases hg:gSym (bsOf s)
  ·rw[hg]at G ad;have U:Hid (mkind (bsOf s)=if za7 (bsOf s) then 6 else 8):=ad.out;clear hg ad;have HT:Hid (∀ (w':World) (g:Nat),zcu w' g 0->Calls Tryz.prog 68 #[.string s,.slice (some ⟨g,0,none⟩) 6 6] w' fun e I=>e=.returned (.bool (decide (bsOf s∈opTx)))/\I=w'):=fun w' g h=>by rw[<- ziK];exact zeu s (some ⟨g,0,none⟩) 6 (opTx.map mkS) w' h.strs (by decide)
   have HR:Hid (∀ (w':World),Calls Tryz.prog 68 #[.string s,.slice (some ⟨w'.heap.size,0,none⟩) 5 5] (w'.alloc (.cells #[.string ⟨#[43]⟩,.string ⟨#[45]⟩,.string ⟨#[42]⟩,.string ⟨#[47]⟩,.string ⟨#[37]⟩] 9)) fun e I=>e=.returned (.bool (decide (bsOf s∈arTx)))/\I=(w'.alloc (.cells #[.string ⟨#[43]⟩,.string ⟨#[45]⟩,.string ⟨#[42]⟩,.string ⟨#[47]⟩,.string ⟨#[37]⟩] 9))):=fun w'=>by rw[<- ziK];exact zeu s (some ⟨w'.heap.size,0,none⟩) 5 (arTx.map mkS) _ (zkj w') (by decide)
   have ah:=zbB s [95];have ae:=zbB s [61,62];by_cases h63:(s[0].toNat:Int)=63
   ·have:=HQ.out h63;subst this;by_cases Z:bsOf s=[95]
    ·have X:Hid (za7 (bsOf s)=true):=show _=_ from by simp[za7,Z]
     rw[decide_eq_true Z]at ah;clear Z ae;go_enter Tryz.func55,Tryz.ntmps55;go_upto_region 6 with (first | (go_at_call 102;refine HI.out.mono ?_;intro e w1 hp;obtain ⟨m,rfl,E⟩:=hp.not HN.out;clear hp) | (go_at_call 64;refine (HG.out _).mono ?_;rintro e w2 ⟨rfl,rfl⟩));go_upto_region 8 with (go_at_call 64;refine (G.out _).mono ?_;rintro e w2 ⟨rfl,rfl⟩);go_wp2
     go_ret2
     exact ⟨by rw[U.out,HM.out,X.out];rfl,E⟩
    rw[decide_eq_false Z]at ah;by_cases hB:bsOf s=[61,62]
    ·have X:Hid (za7 (bsOf s)=true):=show _=_ from by simp[za7,hB]
     rw[decide_eq_true hB]at ae;clear Z hB;go_enter Tryz.func55,Tryz.ntmps55;go_upto_region 6 with (first | (go_at_call 102;refine HI.out.mono ?_;intro e w1 hp;obtain ⟨m,rfl,E⟩:=hp.not HN.out;clear hp) | (go_at_call 64;refine (HG.out _).mono ?_;rintro e w2 ⟨rfl,rfl⟩));go_upto_region 8 with (go_at_call 64;refine (G.out _).mono ?_;rintro e w2 ⟨rfl,rfl⟩);go_wp2
     go_ret2
     exact ⟨by rw[U.out,HM.out,X.out];rfl,E⟩
    rw[decide_eq_false hB]at ae;by_cases hC:bsOf s∈opTx
    ·have X:Hid (za7 (bsOf s)=true):=show _=_ from by simp[za7,hC]
     rw[decide_eq_true hC]at HT;clear Z hB hC;go_enter Tryz.func55,Tryz.ntmps55;go_upto_region 6 with (first | (go_at_call 102;refine HI.out.mono ?_;intro e w1 hp;obtain ⟨m,rfl,E⟩:=hp.not HN.out;clear hp) | (go_at_call 64;refine (HG.out _).mono ?_;rintro e w2 ⟨rfl,rfl⟩));go_upto_region 8 with (go_at_call 64;refine (G.out _).mono ?_;rintro e w2 ⟨rfl,rfl⟩);go_wp2_with (first | (go_at_call 103;refine (zce _).mono ?_;rintro e w3 ⟨rfl,ab,O⟩) | (go_at_call 68;refine (HT.out _ _ ab).mono ?_;rintro e w4 ⟨rfl,rfl⟩))
     go_ret2
     exact ⟨by rw[U.out,HM.out,X.out];rfl,E.trans (O.mono E.size)⟩
    rw[decide_eq_false hC]at HT;by_cases hD:bsOf s∈arTx
    focus
     have X:Hid (za7 (bsOf s)=true):=show _=_ from by simp[za7,hD]
     rw[decide_eq_true hD]at HR
    rotate_left
    focus
     have X:Hid (za7 (bsOf s)=false):=show _=_ from by simp[za7,Z,hB,hC,hD]
     rw[decide_eq_false hD]at HR
    rotate_left
    all_goals
     clear Z hB hC hD;go_enter Tryz.func55,Tryz.ntmps55;go_upto_region 6 with (first | (go_at_call 102;refine HI.out.mono ?_;intro e w1 hp;obtain ⟨m,rfl,E⟩:=hp.not HN.out;clear hp) | (go_at_call 64;refine (HG.out _).mono ?_;rintro e w2 ⟨rfl,rfl⟩));go_upto_region 8 with (go_at_call 64;refine (G.out _).mono ?_;rintro e w2 ⟨rfl,rfl⟩);go_wp2_with (first | (go_at_call 103;refine (zce _).mono ?_;rintro e w3 ⟨rfl,ab,O⟩) | (go_at_call 68;first | (with_reducible refine (HT.out _ _ ab).mono ?_;rintro e w4 ⟨rfl,rfl⟩) | (with_reducible refine (HR.out _).mono ?_;rintro e w4 ⟨rfl,rfl⟩)) | (go_at_call 104;refine (zb9 _).mono ?_;rintro e w5 ⟨rfl,rfl⟩))
     go_ret2
     exact ⟨by rw[U.out,HM.out,X.out];rfl,E.trans ((O.alloc O.size _).mono E.size)⟩
   by_cases Z:bsOf s=[95]
   ·have X:Hid (za7 (bsOf s)=true):=show _=_ from by simp[za7,Z]
    rw[decide_eq_true Z]at ah;clear Z ae;go_enter Tryz.func55,Tryz.ntmps55;go_upto_region 8 with (first | (go_at_call 102;refine HI.out.mono ?_;intro e w1 hp;obtain ⟨m,rfl,E⟩:=hp.not HN.out;clear hp) | (go_at_call 64;refine (G.out _).mono ?_;rintro e w2 ⟨rfl,rfl⟩));go_wp2
    go_ret2
    exact ⟨by rw[U.out,HM.out,X.out];rfl,E⟩
   rw[decide_eq_false Z]at ah;by_cases hB:bsOf s=[61,62]
   ·have X:Hid (za7 (bsOf s)=true):=show _=_ from by simp[za7,hB]
    rw[decide_eq_true hB]at ae;clear Z hB;go_enter Tryz.func55,Tryz.ntmps55;go_upto_region 8 with (first | (go_at_call 102;refine HI.out.mono ?_;intro e w1 hp;obtain ⟨m,rfl,E⟩:=hp.not HN.out;clear hp) | (go_at_call 64;refine (G.out _).mono ?_;rintro e w2 ⟨rfl,rfl⟩));go_wp2
    go_ret2
    exact ⟨by rw[U.out,HM.out,X.out];rfl,E⟩
   rw[decide_eq_false hB]at ae;by_cases hC:bsOf s∈opTx
   ·have X:Hid (za7 (bsOf s)=true):=show _=_ from by simp[za7,hC]
    rw[decide_eq_true hC]at HT;clear Z hB hC;go_enter Tryz.func55,Tryz.ntmps55;go_upto_region 8 with (first | (go_at_call 102;refine HI.out.mono ?_;intro e w1 hp;obtain ⟨m,rfl,E⟩:=hp.not HN.out;clear hp) | (go_at_call 64;refine (G.out _).mono ?_;rintro e w2 ⟨rfl,rfl⟩));go_wp2_with (first | (go_at_call 103;refine (zce _).mono ?_;rintro e w3 ⟨rfl,ab,O⟩) | (go_at_call 68;refine (HT.out _ _ ab).mono ?_;rintro e w4 ⟨rfl,rfl⟩))
    go_ret2
    exact ⟨by rw[U.out,HM.out,X.out];rfl,E.trans (O.mono E.size)⟩
   rw[decide_eq_false hC]at HT;by_cases hD:bsOf s∈arTx
   focus
    have X:Hid (za7 (bsOf s)=true):=show _=_ from by simp[za7,hD]
    rw[decide_eq_true hD]at HR
   rotate_left
   focus
    have X:Hid (za7 (bsOf s)=false):=show _=_ from by simp[za7,Z,hB,hC,hD]
    rw[decide_eq_false hD]at HR
   rotate_left
   all_goals
    clear Z hB hC hD;go_enter Tryz.func55,Tryz.ntmps55;go_upto_region 8 with (first | (go_at_call 102;refine HI.out.mono ?_;intro e w1 hp;obtain ⟨m,rfl,E⟩:=hp.not HN.out;clear hp) | (go_at_call 64;refine (G.out _).mono ?_;rintro e w2 ⟨rfl,rfl⟩));go_wp2_with (first | (go_at_call 103;refine (zce _).mono ?_;rintro e w3 ⟨rfl,ab,O⟩) | (go_at_call 68;first | (with_reducible refine (HT.out _ _ ab).mono ?_;rintro e w4 ⟨rfl,rfl⟩) | (with_reducible refine (HR.out _).mono ?_;rintro e w4 ⟨rfl,rfl⟩)) | (go_at_call 104;refine (zb9 _).mono ?_;rintro e w5 ⟨rfl,rfl⟩))
    go_ret2
    exact ⟨by rw[U.out,HM.out,X.out];rfl,E.trans ((O.alloc O.size _).mono E.size)⟩
  rw[hg]at G ad;have HK:Hid (mkind (bsOf s)=5):=ad.out;clear hg ad;by_cases h63:(s[0].toNat:Int)=63
  ·have:=HQ.out h63;subst this;go_enter Tryz.func55,Tryz.ntmps55;go_upto_region 6 with (first | (go_at_call 102;refine HI.out.mono ?_;intro e w1 hp;obtain ⟨m,rfl,E⟩:=hp.not HN.out;clear hp) | (go_at_call 64;refine (HG.out _).mono ?_;rintro e w2 ⟨rfl,rfl⟩));go_wp2_with (go_at_call 64;refine (G.out _).mono ?_;rintro e w2 ⟨rfl,rfl⟩)
   go_ret2
   exact ⟨by rw[HK.out,HM.out];rfl,E⟩
  go_enter Tryz.func55,Tryz.ntmps55;go_wp2_with (first | (go_at_call 102;refine HI.out.mono ?_;intro e w1 hp;obtain ⟨m,rfl,E⟩:=hp.not HN.out;clear hp) | (go_at_call 64;refine (G.out _).mono ?_;rintro e w2 ⟨rfl,rfl⟩))
  go_ret2
  exact ⟨by rw[HK.out,HM.out];rfl,E⟩
end Go.Proofs.YtjjjagepnnbebaaGreatDoor
namespace Go.Proofs.YtjjjagepnnbebaaGreatDoor
structure Wd where
 kind:Int
 pos:Nat
 text:Bs
 num:Int
def zcJ(b:UInt8):Bool:=decide (b=32) || (decide (b=9) || (decide (b=10) || decide (b=13)))
def za2(b:UInt8):Bool:=decide (32<b.toNat) && (decide (b.toNat<127) && (decide (b≠40) && (decide (b≠41) && decide (b≠59))))
def zcA(b:UInt8):Bool:=decide (b≠10)
def zbs(p:UInt8->Bool)(l:Bs):Nat:=(l.takeWhile p).length
def za5:Nat->Bs->Nat->List Wd
 | 0,_,_=>[]
 | _+1,[],k=>[⟨0,k,[],0⟩]
 | n+1,b :: r,k=>
  if zcJ b then za5 n r (k+1)
  else if b=59 then za5 n ((b :: r).drop (zbs zcA (b :: r))) (k+zbs zcA (b :: r))
  else if b=40 then ⟨1,k,[],0⟩ :: za5 n r (k+1)
  else if b=41 then ⟨2,k,[],0⟩ :: za5 n r (k+1)
  else if b.toNat<33∨126<b.toNat then ⟨7,k,[],0⟩ :: za5 n r (k+1)
  else ⟨mkind ((b :: r).takeWhile za2),k,(b :: r).takeWhile za2,mnum ((b :: r).takeWhile za2)⟩ :: za5 n ((b :: r).drop (zbs za2 (b :: r))) (k+zbs za2 (b :: r))
def zaQ(s:Bs)(k:Nat):List Wd:=za5 (s.length+1 - k) (s.drop k) k
def zbd(s:Bs):List Wd:=zaQ s 0
theorem zdP{p:UInt8->Bool}{b:UInt8}{r:Bs}(h:p b=true):1<=zbs p (b :: r):=by
 unfold zbs;rw[List.takeWhile_cons,if_pos h];simp
theorem zlq(p:UInt8->Bool)(l:Bs):zbs p l<=l.length:=List.Sublist.length_le (List.takeWhile_sublist p)
theorem line59:zcA 59=true:=by decide
theorem zeD{b:UInt8}(h1:¬ b=59)(h2:¬ b=40)(h3:¬ b=41)(E:¬ (b.toNat<33∨126<b.toNat)):za2 b=true:=by
 unfold za2;simp[h1,h2,h3];omega
theorem zgf:∀ (n m:Nat) (l:Bs) (k:Nat),l.length<n->l.length<m->za5 n l k=za5 m l k:=by
 intro n
 induction n with
 | zero=>intro m l k h;omega
 | succ n E=>
  intro m l k hn hm;obtain ⟨m,rfl⟩:∃ m',m=m'+1:=⟨m - 1,by omega⟩
  cases l with
  | nil=>rfl
  | cons b r=>
   have hr:r.length<n/\r.length<m:=by simp at hn hm;omega
   unfold za5;by_cases h1:zcJ b=true
   ·rw[if_pos h1,if_pos h1];exact E m r _ hr.1 hr.2
   rw[if_neg h1,if_neg h1];by_cases h2:b=59
   ·rw[if_pos h2,if_pos h2];have hp:1<=zbs zcA (b :: r):=zdP (by rw[h2];exact line59);exact E m _ _ (by rw[List.length_drop];simp only[List.length_cons]at *;omega) (by rw[List.length_drop];simp only[List.length_cons]at *;omega)
   rw[if_neg h2,if_neg h2];by_cases h3:b=40
   ·rw[if_pos h3,if_pos h3,E m r _ hr.1 hr.2]
   rw[if_neg h3,if_neg h3];by_cases G:b=41
   ·rw[if_pos G,if_pos G,E m r _ hr.1 hr.2]
   rw[if_neg G,if_neg G];by_cases I:b.toNat<33∨126<b.toNat
   ·rw[if_pos I,if_pos I,E m r _ hr.1 hr.2]
   rw[if_neg I,if_neg I];have hp:1<=zbs za2 (b :: r):=zdP (zeD h2 h3 G I);rw[E m _ _ (by rw[List.length_drop];simp only[List.length_cons]at *;omega) (by rw[List.length_drop];simp only[List.length_cons]at *;omega)]
theorem zfO(s:Bs)(k n:Nat)(hk:k<=s.length)(hn:s.length - k<n):za5 n (s.drop k) k=zaQ s k:=
 zgf _ _ _ _ (by rw[List.length_drop];exact hn) (by rw[List.length_drop];omega)
theorem ze0(s:Bs):zaQ s s.length=[⟨0,s.length,[],0⟩]:=by
 unfold zaQ;rw[List.drop_length,show s.length+1 - s.length=0+1 by omega];rfl
theorem zei{s:Bs}{k:Nat}{b:UInt8}(hb:s[k]?=some b):zaQ s k =
  if zcJ b then zaQ s (k+1)
  else if b=59 then zaQ s (k+zbs zcA (s.drop k))
  else if b=40 then ⟨1,k,[],0⟩ :: zaQ s (k+1)
  else if b=41 then ⟨2,k,[],0⟩ :: zaQ s (k+1)
  else if b.toNat<33∨126<b.toNat then ⟨7,k,[],0⟩ :: zaQ s (k+1)
  else ⟨mkind ((s.drop k).takeWhile za2),k,(s.drop k).takeWhile za2,mnum ((s.drop k).takeWhile za2)⟩ :: zaQ s (k+zbs za2 (s.drop k)):=by
 have hk:k<s.length:=(List.getElem?_eq_some_iff.1 hb).1;have hd:s.drop k=b :: s.drop (k+1):=zaU hb;have I:zaQ s k=za5 (s.length - k+1) (b :: s.drop (k+1)) k:=by
  rw[<- zfO s k (s.length - k+1) (by omega) (by omega),hd]
 have e1:za5 (s.length - k) (s.drop (k+1)) (k+1)=zaQ s (k+1):=zfO s (k+1) _ (by omega) (by omega);have e2:∀ p,1<=zbs p (s.drop k)->za5 (s.length - k) ((s.drop k).drop (zbs p (s.drop k))) (k+zbs p (s.drop k))=zaQ s (k+zbs p (s.drop k)):=fun p hp=>by
  have hl:=zlq p (s.drop k);rw[List.length_drop]at hl;rw[List.drop_drop];exact zfO s _ _ (by omega) (by omega)
 rw[I];unfold za5;rw[<- hd,e1];by_cases h1:zcJ b=true
 ·rw[if_pos h1,if_pos h1]
 rw[if_neg h1,if_neg h1];by_cases h2:b=59
 ·rw[if_pos h2,if_pos h2,e2 zcA (by rw[hd,h2];exact zdP line59)]
 rw[if_neg h2,if_neg h2];by_cases h3:b=40
 ·rw[if_pos h3,if_pos h3]
 rw[if_neg h3,if_neg h3];by_cases E:b=41
 ·rw[if_pos E,if_pos E]
 rw[if_neg E,if_neg E];by_cases G:b.toNat<33∨126<b.toNat
 ·rw[if_pos G,if_pos G]
 rw[if_neg G,if_neg G,e2 za2 (by rw[hd];exact zdP (zeD h2 h3 E G))]
theorem zqa{p:UInt8->Bool}:∀ {l:Bs}{n:Nat},n<=l.length->(∀ i b,i<n->l[i]?=some b->p b=true)->(∀ b,l[n]?=some b->p b=false)->l.takeWhile p=l.take n
 | [],n,hn,_,_=>by
  obtain rfl:n=0:=by simpa using hn
  rfl
 | b :: r,0,_,_,h2=>by
  have:=h2 b rfl
  rw[List.takeWhile_cons,if_neg (by simp[this])]
  rfl
 | b :: r,n+1,hn,h1,h2=>by
  have hb:=h1 0 b (by omega) rfl
  rw[List.takeWhile_cons,if_pos hb,List.take_succ_cons,zqa (l:=r) (n:=n) (by simpa using hn) (fun i c hi E=>h1 (i+1) c (by omega) (by simpa using E)) (fun c E=>h2 c (by simpa using E))]
theorem zia{p:UInt8->Bool}{s:Bs}{k j:Nat}(E:k<=j)(hj:j<=s.length)(h1:∀ i b,k<=i->i<j->s[i]?=some b->p b=true)(h2:∀ b,s[j]?=some b->p b=false):(s.drop k).takeWhile p=(s.drop k).take (j - k)/\k+zbs p (s.drop k)=j:=by
 have e:(s.drop k).takeWhile p=(s.drop k).take (j - k):=zqa (by rw[List.length_drop];omega) (fun i b hi hb=>h1 (k+i) b (by omega) (by omega) (by rw[List.getElem?_drop]at hb;exact hb)) (fun b hb=>h2 b (by rw[List.getElem?_drop,show k+(j - k)=j by omega]at hb;exact hb));refine ⟨e,?_⟩;unfold zbs;rw[e,List.length_take,List.length_drop];omega
end Go.Proofs.YtjjjagepnnbebaaGreatDoor
namespace Go.Proofs.YtjjjagepnnbebaaGreatDoor
open Go.RowKit
attribute [local go_sem ↓] Go.wp_at_zero Go.wp_at_succ
def wdV(x:Wd):List Value:=[.int .i64 x.kind,.int .i64 (x.pos:Int),.string (mkS x.text),.int .i64 x.num]
def wdsV(l:List Wd):List Value:=l.flatMap wdV
theorem zmL(l:List Wd)(x:Wd):wdsV (l ++ [x])=wdsV l ++ wdV x:=by simp[wdsV]
theorem zeU(x:Wd):∀ u∈wdV x,u.oneCell'=true:=by
 intro u E;simp[wdV]at E;rcases E with rfl | rfl | rfl | rfl <;> rfl
theorem zh9:(Tryz.prog.info? 102).map (fun i=>(i.zero,i.size,i.bytes))=some (some (.agg #[.int .i64 0,.int .i64 0,.string ByteArray.empty,.int .i64 0]),4,40):=by kernel_rfl
def zri(w:World)(l:List Wd)(e:Ending)(w':World):Prop:=(∃ a c,e=.returned (.slice a l.length c)/\w'.ownsRow w.heap.size 102 4 (.slice a l.length c) l.length (wdsV l))/\Below w.heap.size w w'
theorem zeL{b c:UInt8}:((b.toNat:Int)=(c.toNat:Int)) ↔ b=c:=by
 constructor
 ·intro h;exact UInt8.toNat_inj.1 (by omega)
 rintro rfl;rfl
theorem beqF{a b:Int}(h:¬ a=b):(a==b)=false:=by simpa using h
theorem zjp(b:UInt8):zcJ b=true ↔ ((b.toNat:Int)=32∨(b.toNat:Int)=9∨(b.toNat:Int)=10∨(b.toNat:Int)=13):=by
 unfold zcJ;simp only[Bool.or_eq_true,decide_eq_true_eq];have G:=zeL (b:=b) (c:=32);have Z:=zeL (b:=b) (c:=9);have I:=zeL (b:=b) (c:=10);have E:=zeL (b:=b) (c:=13);have U:((32:UInt8).toNat:Int)=32:=rfl;have c9:((9:UInt8).toNat:Int)=9:=rfl;have X:((10:UInt8).toNat:Int)=10:=rfl;have O:((13:UInt8).toNat:Int)=13:=rfl;rw[U]at G;rw[c9]at Z;rw[X]at I;rw[O]at E;rw[G,Z,I,E]
theorem ziz(b:UInt8):za2 b=true ↔ ((32:Int)<(b.toNat:Int)/\(b.toNat:Int)<127/\¬ (b.toNat:Int)=40/\¬ (b.toNat:Int)=41/\¬ (b.toNat:Int)=59):=by
 unfold za2;simp only[Bool.and_eq_true,decide_eq_true_eq];have I:=zeL (b:=b) (c:=40);have G:=zeL (b:=b) (c:=41);have E:=zeL (b:=b) (c:=59);have O:((40:UInt8).toNat:Int)=40:=rfl;have X:((41:UInt8).toNat:Int)=41:=rfl;have U:((59:UInt8).toNat:Int)=59:=rfl;rw[O]at I;rw[X]at G;rw[U]at E;rw[I,G,E];constructor
 ·rintro ⟨h1,h2,h3⟩;exact ⟨by omega,by omega,h3⟩
 rintro ⟨h1,h2,h3⟩;exact ⟨by omega,by omega,h3⟩
theorem znB{P:World->Prop}{w:World}{b:Nat}{t:TypeId}{x0 x1 x2 x3 E G:Value}(O:w.heap[b]?=some (.cells #[x0,x1,x2,x3] t (0,0)))(h:∀ I,I.heap[b]?=some (.cells #[E,x1,x2,G] t (0,0))->Below b w I->P I):P ((w.setCell ⟨b,0,none⟩ E).setCell ⟨b,3,none⟩ G):=by
 refine h _ ?_ (((Below.refl b w).setCell (Nat.le_refl b) _).setCell (Nat.le_refl b) _);have h1:=zap (i:=0) O E;exact zap (i:=3) h1 G
theorem zd5(src:Bs)(w:World)(b o c k j:Nat)(hv:zbZ w (some ⟨b,o,none⟩) src)(G:k<=j)(hj:j<=src.length):(convert 22 9 (.slice (some ⟨b,o+k,none⟩) (j - k) c)).run Tryz.prog w=.ok (.string (mkS ((src.drop k).take (j - k)))) w:=by
 have hl:((src.drop k).take (j - k)).length=j - k:=by rw[List.length_take,List.length_drop];omega
 have h:=run_convert_bytes_arg (P:=Tryz.prog) w 22 5 Tryz.underlying22 Tryz.underlying5 b (o+k) (j - k) c (((src.drop k).take (j - k)).map fun x=>(x.toNat:Int)) (by rw[List.length_map,hl]) (fun i hi=>by
  have E:i<j - k:=by simpa[hl] using hi
  have hx:src[k+i]?=some (src[k+i]'(by omega)):=by simp
  obtain ⟨O,o',e,_,I⟩:=hv (k+i) _ hx;simp only[Option.some.injEq,Addr.mk.injEq,and_true]at e;obtain ⟨rfl,rfl⟩:=e;rw[Nat.add_assoc,I];simp[E];rw[hx];rfl) 9 Tryz.underlying9
 rw[h];have e1:(((src.drop k).take (j - k)).map fun x=>(x.toNat:Int)).map (fun n=>UInt8.ofNat n.toNat)=(src.drop k).take (j - k):=by
  rw[List.map_map];exact List.map_id'' (fun x=>by simp) _
 unfold strOfNums;rw[e1];rfl
theorem zf0{w:World}{base n:Nat}{a:Option Addr}{c:Nat}{l l':List Wd}{x:Wd}{m:Nat}(h:w.ownsRow base 102 4 (.slice a n c) n (wdsV l ++ wdV x))(hl:l'=l ++ [x])(hm:m=n):w.ownsRow base 102 4 (.slice a m c) m (wdsV l'):=by
 subst hl hm;rw[zmL];exact h
theorem zkx(src:Bs)(a:Option Addr)(c:Nat)(w:World)(hv:zbZ w a src)(hl:src.length<=20000)(aX:src.length<=c):Calls Tryz.prog 20 #[.slice a src.length c] w (zri w (zbd src)):=by
 have HV:=hidX hv;clear hv;go_enter Tryz.func20,Tryz.ntmps20;go_wp2
 go_loopw [3,4] (fun sv iv wr=>∃ (k:Nat) (L:List Wd) (a':Option Addr) (c':Nat),k<=src.length/\iv=.int .i64 (k:Int)/\sv=.slice a' L.length c'/\wr.ownsRow w.heap.size 102 4 (.slice a' L.length c') L.length (wdsV L)/\L.length<=k/\zbd src=L ++ zaQ src k/\Below w.heap.size w wr) (fun _ iv _=>src.length - (intOf iv).toNat)
 case atStart=>exact ⟨0,[],none,0,Nat.zero_le _,rfl,rfl,World.ownsRow_nil _ _ _ _,Nat.le_refl _,rfl,Below.refl _ _⟩
 case round=>
  obtain ⟨k,L,a',c',hk,rfl,rfl,hown,a6,hW,hb⟩:=hrel;have HR:=hidX hown;have HW:=hidX hW;have HB:=hidX hb;have hsz:=hb.size;clear hown hW hb;by_cases aR:k<src.length
  ·obtain ⟨x,hx⟩:∃ x,src[k]?=some x:=⟨src[k],by simp[aR]⟩
   have E:=zei hx;obtain ⟨b,o,rfl,_,hc⟩:=(HV.out.below HB.out) k x hx;have k0:(0:Int)<=(k:Int):=by omega
   have k1:(k:Int)<(src.length:Int):=by omega
   have aE:=zjp x;have ao:=ziz x;have aZ:x.toNat<256:=UInt8.toNat_lt x;have HX:=hidX hx;clear hx;by_cases h1:zcJ x=true
   ·have HS:Hid (zbd src=L ++ zaQ src (k+1)):=show _=_ from by rw[HW.out,E,if_pos h1]
    have aV:=aE.1 h1;clear E aE ao h1;rcases aV with h | h | h | h
    all_goals
     rw[h]at hc;clear h;go_wp2;go_roundw
     case rel=>exact ⟨k+1,L,a',c',by omega,by go_num,rfl,HR.out,by omega,HS.out,HB.out⟩
     case measure=>(simp[intOf];omega)
   have nb:¬ ((x.toNat:Int)=32∨(x.toNat:Int)=9∨(x.toNat:Int)=10∨(x.toNat:Int)=13):=fun h=>h1 (aE.2 h);have n1:((x.toNat:Int)==32)=false:=beqF fun h=>nb (.inl h);have n2:((x.toNat:Int)==9)=false:=beqF fun h=>nb (.inr (.inl h));have n3:((x.toNat:Int)==10)=false:=beqF fun h=>nb (.inr (.inr (.inl h)));have n4:((x.toNat:Int)==13)=false:=beqF fun h=>nb (.inr (.inr (.inr h)));rw[if_neg h1]at E;clear h1 aE nb;by_cases h2:x=59
   ·rw[if_pos h2]at E;have ar:=hidX E;have au:=hc;rw[h2]at au;have aG:wr.cell? ⟨b,o+k,none⟩=some (.int .u8 59):=au;have aQ:∀ z,src[k]?=some z->zcA z=true:=fun z hz=>by
     rw[HX.out]at hz;injection hz with hz;subst hz;rw[h2];exact line59
    clear E ao h2 hc au;obtain ⟨wo,aq⟩:∃ u,u=wr:=⟨wr,rfl⟩
    rw[<- aq]at HR HB hsz aG ⊢;have ah:=HV.out.below HB.out;clear aq;go_wp2
    go_loopw [4] (fun iv wq=>∃ j:Nat,k<=j/\j<=src.length/\iv=.int .i64 (j:Int)/\(∀ i z,k<=i->i<j->src[i]?=some z->zcA z=true)/\wq=wo) (fun iv _=>src.length - (intOf iv).toNat)
    case atStart=>exact ⟨k,Nat.le_refl _,by omega,rfl,fun i z h1 h2=>by omega,rfl⟩
    case round=>
     obtain ⟨j,al,hj,rfl,aD,rfl⟩:=hrel;have af:=hidX aD;clear aD aG;by_cases aI:j<src.length
     ·obtain ⟨z,hz⟩:∃ z,src[j]?=some z:=⟨src[j],by simp[aI]⟩
      obtain ⟨b2,o2,ea,_,az⟩:=ah j z hz;simp only[Option.some.injEq,Addr.mk.injEq,and_true]at ea;obtain ⟨rfl,rfl⟩:=ea;have j0:(0:Int)<=(j:Int):=by omega
      have j1:(j:Int)<(src.length:Int):=by omega
      by_cases U:z=10
      ·have aO:Hid (k+zbs zcA (src.drop k)=j):=(zia al hj af.out (fun y hy=>by rw[hz]at hy;injection hy with hy;subst hy;rw[U];decide)).2;rw[U]at az;have aY:wr.cell? ⟨b,o+j,none⟩=some (.int .u8 10):=az;have aH:k<j:=by
        rcases Nat.lt_or_ge k j with h | h
        ·exact h
        obtain rfl:k=j:=by omega
        have:=aQ z hz;rw[U]at this;exact absurd this (by decide)
       clear U az hz;go_wp2;go_roundw
       case rel=>exact ⟨j,L,a',c',hj,rfl,rfl,HR.out,by omega,by rw[HW.out,ar.out,aO.out],HB.out⟩
       case measure=>(simp[intOf];omega)
      have zn:¬ (z.toNat:Int)=10:=fun h=>U (zeL.1 (by rw[h];rfl));have aL:Hid (∀ i y,k<=i->i<j+1->src[i]?=some y->zcA y=true):=fun i y h1 h2 hy=>by
       rcases Nat.lt_or_ge i j with h | h
       ·exact af.out i y h1 h hy
       obtain rfl:i=j:=by omega
       rw[hz]at hy;injection hy with hy;subst hy;unfold zcA;simpa using U
      clear U hz;go_wp2;go_roundw
      case rel=>exact ⟨j+1,by omega,by omega,by go_num,aL.out,(by first | rfl | trivial)⟩
      case measure=>(simp[intOf];omega)
     obtain rfl:j=src.length:=by omega
     have j1:¬ (src.length:Int)<(src.length:Int):=by omega
     have aO:Hid (k+zbs zcA (src.drop k)=src.length):=(zia al hj af.out (fun y hy=>by rw[List.getElem?_eq_none (Nat.le_refl _)]at hy;cases hy)).2;go_wp2;go_roundw
     case rel=>exact ⟨src.length,L,a',c',hj,rfl,rfl,HR.out,by omega,by rw[HW.out,ar.out,aO.out],HB.out⟩
     case measure=>(simp[intOf];omega)
   rw[if_neg h2]at E;have n5:((x.toNat:Int)==59)=false:=beqF fun h=>h2 (zeL.1 (by rw[h];rfl));by_cases h3:x=40
   ·rw[if_pos h3]at E;have HS:Hid (zbd src=(L ++ [⟨1,k,[],0⟩]) ++ zaQ src (k+1)):=show _=_ from by rw[HW.out,E];simp
    rw[h3]at hc;have au:wr.cell? ⟨b,o+k,none⟩=some (.int .u8 40):=hc;clear E ao h2 h3 hc n1 n2 n3 n4 n5;go_wp2_with (at_builtin;refine zag (by rfl) (.tmp 113) (.tmp 116) 61 (by rfl) w.heap.size 102 _ 4 40 Tryz.underlying61 zh9 (by rfl) (by omega) _ L.length _ (by rfl) (zao HR.out ((Below.refl _ _).alloc (Nat.le_refl _) _)) (some ⟨wr.heap.size,0,none⟩) 1 1 (by rfl) (wdV ⟨1,k,[],0⟩) (by rfl) (fun e=>by cases e) (zas _ _ _ _ rfl) (zeU _) (by unfold maxLen;omega) (by omega) (by simp;omega) ?_;intro a3 c3 w3 X O ay);have Z:=hidX ((HB.out.alloc hsz _).grown O.out (by simp;omega) (fun j hj=>(HR.out.lt j hj).1));go_wp2;go_roundw
    case rel=>exact ⟨k+1,L ++ [⟨1,k,[],0⟩],a3,c3,by omega,by go_num,by simp,zf0 X.out rfl (by simp),by simp;omega,HS.out,Z.out⟩
    case measure=>(simp[intOf];omega)
   rw[if_neg h3]at E;have n6:((x.toNat:Int)==40)=false:=beqF fun h=>h3 (zeL.1 (by rw[h];rfl));by_cases h4:x=41
   ·rw[if_pos h4]at E;have HS:Hid (zbd src=(L ++ [⟨2,k,[],0⟩]) ++ zaQ src (k+1)):=show _=_ from by rw[HW.out,E];simp
    rw[h4]at hc;have au:wr.cell? ⟨b,o+k,none⟩=some (.int .u8 41):=hc;clear E ao h2 h3 h4 hc n1 n2 n3 n4 n5 n6;go_wp2_with (at_builtin;refine zag (by rfl) (.tmp 123) (.tmp 126) 61 (by rfl) w.heap.size 102 _ 4 40 Tryz.underlying61 zh9 (by rfl) (by omega) _ L.length _ (by rfl) (zao HR.out ((Below.refl _ _).alloc (Nat.le_refl _) _)) (some ⟨wr.heap.size,0,none⟩) 1 1 (by rfl) (wdV ⟨2,k,[],0⟩) (by rfl) (fun e=>by cases e) (zas _ _ _ _ rfl) (zeU _) (by unfold maxLen;omega) (by omega) (by simp;omega) ?_;intro a3 c3 w3 X O ay);have Z:=hidX ((HB.out.alloc hsz _).grown O.out (by simp;omega) (fun j hj=>(HR.out.lt j hj).1));go_wp2;go_roundw
    case rel=>exact ⟨k+1,L ++ [⟨2,k,[],0⟩],a3,c3,by omega,by go_num,by simp,zf0 X.out rfl (by simp),by simp;omega,HS.out,Z.out⟩
    case measure=>(simp[intOf];omega)
   rw[if_neg h4]at E;have n7:((x.toNat:Int)==41)=false:=beqF fun h=>h4 (zeL.1 (by rw[h];rfl));by_cases h5:x.toNat<33∨126<x.toNat
   ·rw[if_pos h5]at E;have HS:Hid (zbd src=(L ++ [⟨7,k,[],0⟩]) ++ zaQ src (k+1)):=show _=_ from by rw[HW.out,E];simp
    clear E ao h2 h3 h4;rcases (show (x.toNat:Int)<33∨(¬ (x.toNat:Int)<33/\(126:Int)<(x.toNat:Int)) by omega) with g | ⟨g,g'⟩
    all_goals
     clear h5;go_wp2_with (at_builtin;refine zag (by rfl) (.tmp 137) (.tmp 140) 61 (by rfl) w.heap.size 102 _ 4 40 Tryz.underlying61 zh9 (by rfl) (by omega) _ L.length _ (by rfl) (zao HR.out ((Below.refl _ _).alloc (Nat.le_refl _) _)) (some ⟨wr.heap.size,0,none⟩) 1 1 (by rfl) (wdV ⟨7,k,[],0⟩) (by rfl) (fun e=>by cases e) (zas _ _ _ _ rfl) (zeU _) (by unfold maxLen;omega) (by omega) (by simp;omega) ?_;intro a3 c3 w3 X O ay);have Z:=hidX ((HB.out.alloc hsz _).grown O.out (by simp;omega) (fun j hj=>(HR.out.lt j hj).1));go_wp2;go_roundw
     case rel=>exact ⟨k+1,L ++ [⟨7,k,[],0⟩],a3,c3,by omega,by go_num,by simp,zf0 X.out rfl (by simp),by simp;omega,HS.out,Z.out⟩
     case measure=>(simp[intOf];omega)
   rw[if_neg h5]at E;have ar:=hidX E;have g1:¬ (x.toNat:Int)<33:=by omega
   have g2:¬ (126:Int)<(x.toNat:Int):=by omega
   have aP:za2 x=true:=zeD h2 h3 h4 h5;have aS:Hid (∀ z,src[k]?=some z->za2 z=true):=fun z hz=>by
    rw[HX.out]at hz;injection hz with hz;subst hz;exact aP
   clear E ao h2 h3 h4 h5 aP;obtain ⟨wo,aq⟩:∃ u,u=wr:=⟨wr,rfl⟩
   rw[<- aq]at HR HB hsz hc ⊢;have ah:=HV.out.below HB.out;clear aq;go_wp2
   go_loopw [4] (fun iv wq=>∃ j:Nat,k<=j/\j<=src.length/\iv=.int .i64 (j:Int)/\(∀ i z,k<=i->i<j->src[i]?=some z->za2 z=true)/\wq=wo) (fun iv _=>src.length - (intOf iv).toNat)
   case atStart=>exact ⟨k,Nat.le_refl _,by omega,rfl,fun i z h1 h2=>by omega,rfl⟩
   case round=>
    obtain ⟨j,al,hj,rfl,aD,rfl⟩:=hrel;have af:=hidX aD;clear aD hc;by_cases aI:j<src.length
    ·obtain ⟨z,hz⟩:∃ z,src[j]?=some z:=⟨src[j],by simp[aI]⟩
     obtain ⟨b2,o2,ea,_,az⟩:=ah j z hz;simp only[Option.some.injEq,Addr.mk.injEq,and_true]at ea;obtain ⟨rfl,rfl⟩:=ea;have j0:(0:Int)<=(j:Int):=by omega
     have j1:(j:Int)<(src.length:Int):=by omega
     have aF:=ziz z;by_cases ap:za2 z=true
     ·obtain ⟨q1,q2,q3,q4,q5⟩:=aF.1 ap;have r3:=beqF q3;have r4:=beqF q4;have r5:=beqF q5;have a8:((z.toNat:Int) != 40)=true:=by simpa using q3
      have ba:((z.toNat:Int) != 41)=true:=by simpa using q4
      have a7:((z.toNat:Int) != 59)=true:=by simpa using q5
      have aL:Hid (∀ i y,k<=i->i<j+1->src[i]?=some y->za2 y=true):=fun i y h1 h2 hy=>by
       rcases Nat.lt_or_ge i j with h | h
       ·exact af.out i y h1 h hy
       obtain rfl:i=j:=by omega
       rw[hz]at hy;injection hy with hy;subst hy;exact ap
      clear aF ap hz q3 q4 q5;go_wp2;go_roundw
      case rel=>exact ⟨j+1,by omega,by omega,by go_num,aL.out,(by first | rfl | trivial)⟩
      case measure=>(simp[intOf];omega)
     have aN:za2 z=false:=by simpa using ap
     obtain ⟨ad,ae⟩:=zia al hj af.out (fun y hy=>by rw[hz]at hy;injection hy with hy;subst hy;exact aN);have aH:k<j:=by
      rcases Nat.lt_or_ge k j with h | h
      ·exact h
      obtain rfl:k=j:=by omega
      have:=aS.out z hz;rw[aN]at this
      cases this
     have hq:¬ (32:Int)<(z.toNat:Int)∨((32:Int)<(z.toNat:Int)/\¬ (z.toNat:Int)<127)∨((32:Int)<(z.toNat:Int)/\(z.toNat:Int)<127/\(z.toNat:Int)=40)∨((32:Int)<(z.toNat:Int)/\(z.toNat:Int)<127/\(z.toNat:Int)=41)∨((32:Int)<(z.toNat:Int)/\(z.toNat:Int)<127/\(z.toNat:Int)=59):=by
      have a1:¬ ((32:Int)<(z.toNat:Int)/\(z.toNat:Int)<127/\¬ (z.toNat:Int)=40/\¬ (z.toNat:Int)=41/\¬ (z.toNat:Int)=59):=fun h=>ap (aF.2 h);omega
     have ax:=hidX ad;have aB:=hidX ae;clear aF ap aN hz ad ae;rcases hq with q1 | ⟨q1,q2⟩ | ⟨q1,q2,q3⟩ | ⟨q1,q2,q3⟩ | ⟨q1,q2,q3⟩
     all_goals
      try (rw[q3]at az;clear q3)
      have aC:Hid (zbd src=(L ++ [⟨mkind ((src.drop k).take (j - k)),k,(src.drop k).take (j - k),mnum ((src.drop k).take (j - k))⟩]) ++ zaQ src j):=show _=_ from by rw[HW.out,ar.out,ax.out,aB.out];simp
      obtain ⟨T,hT⟩:∃ T,T=(src.drop k).take (j - k):=⟨_,rfl⟩
      have aW:T.length=j - k:=by rw[hT,List.length_take,List.length_drop];omega
      have aw:=zd5 src wr b o (c - k) k j ah al hj;rw[<- hT]at aC aw;have s1:(k:Int)<=(j:Int):=by omega
      have s2:(j:Int)<=(c:Int):=by omega
      have aM:=hidX (fun w'=>zhU (mkS T) w' (by rw[zad];omega) (by rw[zad];omega));clear hT ah;go_upto_region 9 with fail
      refine zaf ?_;intro wb ag ab;have aJ:wr.heap.size<wb.heap.size:=zab ab;have d2:wb.cell? ⟨wr.heap.size,2,none⟩=some (.string (mkS T)):=by simp[World.cell?,ab]
      have aK:=hidX ab;clear ab aw;go_upto_region 10 with (go_at_call 55;refine (aM.out _).mono ?_;rintro e w1 ⟨rfl,aj⟩;rw[zbX];have I:=(aj.block _ aJ).trans aK.out;have p0:w1.cell? ⟨wr.heap.size,0,none⟩=some (.int .i64 0):=(by simp[World.cell?,I]);have p3:w1.cell? ⟨wr.heap.size,3,none⟩=some (.int .i64 0):=(by simp[World.cell?,I]);have z0:w1.frozen? ⟨wr.heap.size,0,none⟩=false:=(by simp[World.frozen?,I]);have z3:w1.frozen? ⟨wr.heap.size,3,none⟩=false:=(by simp[World.frozen?,I]));refine znB I ?_;intro wt G aA;have ak:=hidX (show Below wr.heap.size wr wt from ag.trans ((aj.mono ag.size).trans aA));have aT:=ak.out.size;have t0:wt.cell? ⟨wr.heap.size,0,none⟩=some (.int .i64 (mkind T)):=by simp[World.cell?,G]
      have t1:wt.cell? ⟨wr.heap.size,1,none⟩=some (.int .i64 (k:Int)):=by simp[World.cell?,G]
      have t2:wt.cell? ⟨wr.heap.size,2,none⟩=some (.string (mkS T)):=by simp[World.cell?,G]
      have t3:wt.cell? ⟨wr.heap.size,3,none⟩=some (.int .i64 (mnum T)):=by simp[World.cell?,G]
      have aU:wr.heap.size<wt.heap.size:=zab G;clear G aA I p0 p3 z0 z3 d2 aj ag;go_wp2_with (at_builtin;refine zag (by rfl) (.tmp 73) (.tmp 75) 61 (by rfl) w.heap.size 102 _ 4 40 Tryz.underlying61 zh9 (by rfl) (by omega) _ L.length _ (by rfl) (zao (zao HR.out ak.out) ((Below.refl _ _).alloc (Nat.le_refl _) _)) (some ⟨wt.heap.size,0,none⟩) 1 1 (by rfl) (wdV ⟨mkind T,k,T,mnum T⟩) (by rfl) (fun e=>by cases e) (zas _ _ _ _ rfl) (zeU _) (by unfold maxLen;omega) (by omega) (by simp;omega) ?_;intro a3 c3 w3 X O ay);have Z:=hidX (((HB.out.trans (ak.out.mono hsz)).alloc (by omega) _).grown O.out (by simp;omega) (fun q hq=>(HR.out.lt q hq).1));go_wp2;go_roundw
      case rel=>exact ⟨j,L ++ [⟨mkind T,k,T,mnum T⟩],a3,c3,hj,rfl,by simp,zf0 X.out rfl (by simp),by simp;omega,aC.out,Z.out⟩
      case measure=>(simp[intOf];omega)
    obtain rfl:j=src.length:=by omega
    have j1:¬ (src.length:Int)<(src.length:Int):=by omega
    obtain ⟨ad,ae⟩:=zia al hj af.out (fun y hy=>by rw[List.getElem?_eq_none (Nat.le_refl _)]at hy;cases hy);have ax:=hidX ad;have aB:=hidX ae;have aH:k<src.length:=aR;clear ad ae;have aC:Hid (zbd src=(L ++ [⟨mkind ((src.drop k).take (src.length - k)),k,(src.drop k).take (src.length - k),mnum ((src.drop k).take (src.length - k))⟩]) ++ zaQ src src.length):=show _=_ from by rw[HW.out,ar.out,ax.out,aB.out];simp
    obtain ⟨T,hT⟩:∃ T,T=(src.drop k).take (src.length - k):=⟨_,rfl⟩
    have aW:T.length=src.length - k:=by rw[hT,List.length_take,List.length_drop];omega
    have aw:=zd5 src wr b o (c - k) k src.length ah al hj;rw[<- hT]at aC aw;have s1:(k:Int)<=(src.length:Int):=by omega
    have s2:(src.length:Int)<=(c:Int):=by omega
    have aM:=hidX (fun w'=>zhU (mkS T) w' (by rw[zad];omega) (by rw[zad];omega));clear hT ah;go_upto_region 9 with fail
    refine zaf ?_;intro wb ag ab;have aJ:wr.heap.size<wb.heap.size:=zab ab;have d2:wb.cell? ⟨wr.heap.size,2,none⟩=some (.string (mkS T)):=by simp[World.cell?,ab]
    have aK:=hidX ab;clear ab aw;go_upto_region 10 with (go_at_call 55;refine (aM.out _).mono ?_;rintro e w1 ⟨rfl,aj⟩;rw[zbX];have I:=(aj.block _ aJ).trans aK.out;have p0:w1.cell? ⟨wr.heap.size,0,none⟩=some (.int .i64 0):=(by simp[World.cell?,I]);have p3:w1.cell? ⟨wr.heap.size,3,none⟩=some (.int .i64 0):=(by simp[World.cell?,I]);have z0:w1.frozen? ⟨wr.heap.size,0,none⟩=false:=(by simp[World.frozen?,I]);have z3:w1.frozen? ⟨wr.heap.size,3,none⟩=false:=(by simp[World.frozen?,I]));refine znB I ?_;intro wt G aA;have ak:=hidX (show Below wr.heap.size wr wt from ag.trans ((aj.mono ag.size).trans aA));have aT:=ak.out.size;have t0:wt.cell? ⟨wr.heap.size,0,none⟩=some (.int .i64 (mkind T)):=by simp[World.cell?,G]
    have t1:wt.cell? ⟨wr.heap.size,1,none⟩=some (.int .i64 (k:Int)):=by simp[World.cell?,G]
    have t2:wt.cell? ⟨wr.heap.size,2,none⟩=some (.string (mkS T)):=by simp[World.cell?,G]
    have t3:wt.cell? ⟨wr.heap.size,3,none⟩=some (.int .i64 (mnum T)):=by simp[World.cell?,G]
    have aU:wr.heap.size<wt.heap.size:=zab G;clear G aA I p0 p3 z0 z3 d2 aj ag;go_wp2_with (at_builtin;refine zag (by rfl) (.tmp 73) (.tmp 75) 61 (by rfl) w.heap.size 102 _ 4 40 Tryz.underlying61 zh9 (by rfl) (by omega) _ L.length _ (by rfl) (zao (zao HR.out ak.out) ((Below.refl _ _).alloc (Nat.le_refl _) _)) (some ⟨wt.heap.size,0,none⟩) 1 1 (by rfl) (wdV ⟨mkind T,k,T,mnum T⟩) (by rfl) (fun e=>by cases e) (zas _ _ _ _ rfl) (zeU _) (by unfold maxLen;omega) (by omega) (by simp;omega) ?_;intro a3 c3 w3 X O ay);have Z:=hidX (((HB.out.trans (ak.out.mono hsz)).alloc (by omega) _).grown O.out (by simp;omega) (fun q hq=>(HR.out.lt q hq).1));go_wp2;go_roundw
    case rel=>exact ⟨src.length,L ++ [⟨mkind T,k,T,mnum T⟩],a3,c3,hj,rfl,by simp,zf0 X.out rfl (by simp),by simp;omega,aC.out,Z.out⟩
    case measure=>(simp[intOf];omega)
  obtain rfl:k=src.length:=by omega
  have k1:¬ (src.length:Int)<(src.length:Int):=by omega
  have HS:Hid (zbd src=L ++ [⟨0,src.length,[],0⟩]):=show _=_ from by rw[HW.out,ze0]
  go_wp2_with (at_builtin;refine zag (by rfl) (.tmp 144) (.tmp 148) 61 (by rfl) w.heap.size 102 _ 4 40 Tryz.underlying61 zh9 (by rfl) (by omega) _ L.length _ (by rfl) (zao HR.out ((Below.refl _ _).alloc (Nat.le_refl _) _)) (some ⟨wr.heap.size,0,none⟩) 1 1 (by rfl) (wdV ⟨0,src.length,[],0⟩) (by rfl) (fun e=>by cases e) (zas _ _ _ _ rfl) (zeU _) (by unfold maxLen;omega) (by omega) (by simp;omega) ?_;intro a3 c3 w3 X O ay);have Z:=hidX ((HB.out.alloc hsz _).grown O.out (by simp;omega) (fun j hj=>(HR.out.lt j hj).1));go_wp2;go_ret;have e:(zbd src).length=L.length+1:=by rw[HS.out];simp
  exact ⟨⟨a3,c3,by rw[e];rfl,zf0 X.out HS.out e⟩,Z.out⟩
theorem zkN(b:UInt8)(w:World):Calls Tryz.prog 169 #[.int .u8 (b.toNat:Int)] w fun e w'=>e=.returned (.bool (zcJ b))/\w'=w:=by
 have E:=zjp b;by_cases h:zcJ b=true
 ·have I:=hidX h;rcases E.1 h with h1 | h1 | h1 | h1
  all_goals
   clear E h;rw[h1];go_enter Tryz.func169,Tryz.ntmps169;go_wp2;go_ret;exact ⟨by rw[I.out];rfl,rfl⟩
 have G:¬ ((b.toNat:Int)=32∨(b.toNat:Int)=9∨(b.toNat:Int)=10∨(b.toNat:Int)=13):=fun g=>h (E.2 g);have O:((b.toNat:Int)==32)=false:=beqF fun h=>G (.inl h);have Z:((b.toNat:Int)==9)=false:=beqF fun h=>G (.inr (.inl h));have X:((b.toNat:Int)==10)=false:=beqF fun h=>G (.inr (.inr (.inl h)));have U:((b.toNat:Int)==13)=false:=beqF fun h=>G (.inr (.inr (.inr h)));have I:Hid (zcJ b=false):=show _=_ from by simpa using h
 clear E G h;go_enter Tryz.func169,Tryz.ntmps169;go_wp2;go_ret;exact ⟨by rw[I.out];rfl,rfl⟩
theorem zmt(b:UInt8)(w:World):Calls Tryz.prog 160 #[.int .u8 (b.toNat:Int)] w fun e w'=>e=.returned (.bool (za2 b))/\w'=w:=by
 have E:=ziz b;by_cases h:za2 b=true
 ·obtain ⟨U,I,G,X,Z⟩:=E.1 h;have q2:(b.toNat:Int)<=126:=by omega
  have O:=hidX h;have ae:((b.toNat:Int) != 40)=true:=by simpa using G
  have af:((b.toNat:Int) != 41)=true:=by simpa using X
  have ab:((b.toNat:Int) != 59)=true:=by simpa using Z
  clear E h I G X Z;go_enter Tryz.func160,Tryz.ntmps160;go_wp2;go_ret;exact ⟨by rw[O.out];rfl,rfl⟩
 have hq:¬ (32:Int)<(b.toNat:Int)∨((32:Int)<(b.toNat:Int)/\¬ (b.toNat:Int)<=126)∨(b.toNat:Int)=40∨(b.toNat:Int)=41∨(b.toNat:Int)=59:=by
  have ad:¬ ((32:Int)<(b.toNat:Int)/\(b.toNat:Int)<127/\¬ (b.toNat:Int)=40/\¬ (b.toNat:Int)=41/\¬ (b.toNat:Int)=59):=fun g=>h (E.2 g);omega
 have O:Hid (za2 b=false):=show _=_ from by simpa using h
 clear E h;rcases hq with U | ⟨U,q2⟩ | G | G | G
 all_goals
  try (rw[G];clear G)
  go_enter Tryz.func160,Tryz.ntmps160;go_wp2;go_ret;exact ⟨by rw[O.out];rfl,rfl⟩
theorem zpz(b:UInt8):isAr (b.toNat:Int)=decide ([b]∈arTx):=by
 have E:∀ n:Fin 256,isAr ((n.val:Nat):Int)=decide ([UInt8.ofNat n.val]∈arTx):=by decide +kernel
 have h:=E ⟨b.toNat,UInt8.toNat_lt b⟩;simpa using h
def zaH(s:Bs):Nat:=if s=[61] then 1 else if s=[33,61] then 2 else if s=[60] then 3 else if s=[62] then 4 else if s=[60,61] then 5 else if s=[62,61] then 6 else 0
theorem zfR{t:Bs}{n:Nat}(h1:1<=n)(h2:n<=6)(h:opTx.getD (n - 1) []=t):zaH t=n:=by
 subst h;rcases (show n=1∨n=2∨n=3∨n=4∨n=5∨n=6 by omega) with rfl | rfl | rfl | rfl | rfl | rfl <;> rfl
theorem zhi{t:Bs}(h:∀ j,j<6->¬ opTx.getD j []=t):zaH t=0:=by
 have I:=h 0 (by decide);have h1:=h 1 (by decide);have h2:=h 2 (by decide);have h3:=h 3 (by decide);have E:=h 4 (by decide);have G:=h 5 (by decide);unfold zaH;rw[if_neg fun e=>I e.symm,if_neg fun e=>h1 e.symm,if_neg fun e=>h2 e.symm,if_neg fun e=>h3 e.symm,if_neg fun e=>E e.symm,if_neg fun e=>G e.symm]
theorem zqh(a b:Bs):((mkS a).toList==(mkS b).toList)=decide (a=b):=by
 have h:(mkS b).toList=b:=by rw[ByteArray.toList_eq];rfl
 rw[h,zbB,zbX]
theorem zgd(t:Bs)(w:World)(Z:zcu w 1 1):Calls Tryz.prog 173 #[.string (mkS t)] w fun e w'=>e=.returned (.int .i64 (zaH t:Int))/\w'=w:=by
 have HT:=hidX Z;clear Z;go_enter Tryz.func173,Tryz.ntmps173;go_wp2
 go_loopw [3] (fun U wr=>∃ n:Nat,1<=n/\n<=7/\U=.int .i64 (n:Int)/\(∀ j,j<n - 1->¬ opTx.getD j []=t)/\wr=w) (fun U _=>7 - (intOf U).toNat)
 case atStart=>exact ⟨1,by omega,by omega,rfl,fun j hj=>by omega,rfl⟩
 case round=>
  obtain ⟨n,h1,h7,rfl,G,rfl⟩:=hrel;have HN:=hidX G;clear G;by_cases h6:n<=6
  ·have k0:(0:Int)<=(n:Int):=by omega
   have k1:(n:Int)<7:=by omega
   have k2:(n:Int)<=6:=by omega
   obtain ⟨ob,E⟩:∃ ob,ob=opTx.getD (n - 1) []:=⟨_,rfl⟩
   have hc:wr.cell? ⟨1,n,none⟩=some (.string (mkS ob)):=by
    have:=HT.out (n - 1) (by omega);rw[<- E,show 1+(n - 1)=n by omega]at this;exact this
   have I:=zqh ob t;by_cases he:ob=t
   ·rw[decide_eq_true he]at I;have X:Hid (zaH t=n):=zfR h1 h6 (E ▸ he);clear he E;go_wp2;go_ret;exact ⟨by rw[X.out];rfl,rfl⟩
   rw[decide_eq_false he]at I;have O:Hid (∀ j,j<n+1 - 1->¬ opTx.getD j []=t):=fun j hj=>by
    rcases Nat.lt_or_ge j (n - 1) with h | h
    ·exact HN.out j h
    obtain rfl:j=n - 1:=by omega
    rw[<- E];exact he
   clear he E;go_wp2;go_roundw
   case rel=>exact ⟨n+1,by omega,by omega,by go_num,O.out,(by first | rfl | trivial)⟩
   case measure=>(simp[intOf];omega)
  obtain rfl:n=7:=by omega
  have X:Hid (zaH t=0):=zhi HN.out;go_wp2;go_ret;exact ⟨by rw[X.out];rfl,rfl⟩
theorem zlP(t:Bs):Lib.trimPrefix t [45]=zbk t:=by
 unfold Lib.trimPrefix Lib.hasPrefix zbk
 cases t with
 | nil=>rfl
 | cons b r=>
  by_cases h:b=45
  ·subst h;simp
  have E:¬ (45:UInt8)=b:=fun e=>h e.symm;simp[h,E]
theorem zrE(b:UInt8):isD (b.toNat:Int)=isDg b:=by
 unfold isD isDg;congr 1
 ·exact decide_eq_decide.2 (by omega)
 exact decide_eq_decide.2 (by omega)
theorem zeY{B:Nat}{a w:World}(h:Below B a w):Below B a w.drew:=⟨h.os,h.tape,h.output,h.size,h.block⟩
theorem znq(t:Bs):(zbk t).length<=t.length:=by
 unfold zbk;split
 ·simp
 exact Nat.le_refl _
theorem zjr (t : Bs) (w : World) (hl : t.length ≤ 20000) (tp : TypeId) (p : Value) (Z : w.var? Tryz.prog "strconv.ErrRange" = some #[.iface tp p]) : Calls Tryz.prog 171 #[.string (mkS t)] w (IPost t w) := by
 have ao:=hidX Z;clear Z;have hz:=zbB (mkS t) [48];rw[zbX]at hz;by_cases U:t=[48]
 ·rw[decide_eq_true U]at hz;have I:Hid (zbj t=some 0):=show _=_ from by rw[U];exact zlM
  clear U;go_enter Tryz.func171,Tryz.ntmps171;go_wp2
  go_ret2
  exact ⟨0,true,rfl,I.out,Below.refl _ _⟩
 rw[decide_eq_false U]at hz;obtain ⟨S,hS⟩:∃ S:ByteArray,S=mkS (zbk t):=⟨_,rfl⟩
 have hD:bsOf S=zbk t:=by rw[hS,zbX]
 have af:Hid (∀ w',Calls Tryz.prog 176 #[.string (mkS t),.string ⟨#[45]⟩] w' fun e E=>e=.returned (.string S)/\E=w'):=fun w'=>(Tryz.strings_TrimPrefix (mkS t) ⟨#[45]⟩ w').mono fun e E h=>⟨by rw[h.1,hS,<- zlP];rfl,h.2⟩
 have hsz:S.size<=20000:=by rw[<- zaF,hD];exact Nat.le_trans (znq t) hl
 clear hS;have he:=zbB S [];by_cases hnil:bsOf S=[]
 ·rw[decide_eq_true hnil]at he;have I:Hid (zbj t=none):=zdt U (.inl (hD ▸ hnil));clear U hD hnil;go_enter Tryz.func171,Tryz.ntmps171;go_wp2_with (go_at_call 176;refine (af.out _).mono ?_;rintro e E ⟨rfl,hw⟩;rw[hw];clear hw E)
  go_ret2
  exact IPost.no 0 rfl I.out (Below.refl _ _)
 rw[decide_eq_false hnil]at he;have au:0<S.size:=by
  rw[<- zaF];exact List.length_pos_iff.2 hnil
 have j0:(0:Int)<(S.size:Int):=by omega
 have X:=zeK S au;by_cases G:S[0]=48
 ·have hb:((S[0].toNat:Int)==48)=true:=by rw[G];rfl
  have I:Hid (zbj t=none):=zdt U (.inr (by rw[<- hD,X,G]));clear U hD hnil G X;go_enter Tryz.func171,Tryz.ntmps171;go_wp2_with (go_at_call 176;refine (af.out _).mono ?_;rintro e E ⟨rfl,hw⟩;rw[hw];clear hw E)
  go_ret2
  exact IPost.no 0 rfl I.out (Below.refl _ _)
 have hb:((S[0].toNat:Int)==48)=false:=beqF fun e=>G (zeL.1 (by rw[e];rfl));have aj:Hid (zbk t≠[]/\(zbk t).head?≠some 48):=show _/\_ from by rw[<- hD,X];exact ⟨hnil,fun e=>G (by injection e)⟩
 have ap:=hidX hD;clear U hD hnil G X;go_enter Tryz.func171,Tryz.ntmps171;go_wp2_with (go_at_call 176;refine (af.out _).mono ?_;rintro e E ⟨rfl,hw⟩;rw[hw];clear hw E)
 go_loop [21] (fun iv=>∃ k:Nat,k<=S.size/\iv=.int .i64 (k:Int)/\((bsOf S).take k).all isDg=true) (fun iv=>S.size - (intOf iv).toNat)
 case atStart=>exact ⟨0,by omega,rfl,by simp⟩
 case round=>
  obtain ⟨k,hk,rfl,ad⟩:=hrel;have ab:=hidX ad;clear ad hb he;by_cases aq:k<S.size
  ·have k0:(0:Int)<=(k:Int):=by omega
   have k1:(k:Int)<(S.size:Int):=by omega
   have al:k<(bsOf S).length:=by rw[zaF];exact aq
   have eb:(bsOf S)[k]=S[k]:=zgD S k aq;have O:=zrE S[k];by_cases hd:isDg S[k]=true
   ·have ah:Hid (∀ w',Calls Tryz.prog 140 #[.int .u8 (S[k].toNat:Int)] w' fun e E=>e=.returned (.bool true)/\E=w'):=fun w'=>(ze4 _ w').mono fun e E h=>⟨by rw[h.1,O,hd],h.2⟩
    have ar:Hid (((bsOf S).take (k+1)).all isDg=true):=zdQ al ab.out (by rw[eb];exact hd);clear eb hd O;go_wp2_with (go_at_call 140;refine (ah.out _).mono ?_;rintro e E ⟨rfl,hw⟩;rw[hw];clear hw E);refine ⟨⟨k+1,by omega,by go_num,ar.out⟩,?_⟩;simp[intOf];omega
   have ae:isDg S[k]=false:=by simpa using hd
   have ah:Hid (∀ w',Calls Tryz.prog 140 #[.int .u8 (S[k].toNat:Int)] w' fun e E=>e=.returned (.bool false)/\E=w'):=fun w'=>(ze4 _ w').mono fun e E h=>⟨by rw[h.1,O,ae],h.2⟩
   have I:Hid (zbj t=none):=zh6 (by
    rw[<- ap.out];exact List.all_eq_false.2 ⟨(bsOf S)[k],List.getElem_mem al,by rw[eb];simpa using ae⟩)
   clear eb hd ae O;go_wp2_with (go_at_call 140;refine (ah.out _).mono ?_;rintro e E ⟨rfl,hw⟩;rw[hw];clear hw E)
   go_ret2
   exact IPost.no 0 rfl I.out (Below.refl _ _)
  obtain rfl:k=S.size:=by omega
  have k1:¬ (S.size:Int)<(S.size:Int):=by omega
  have h3:(zbk t).all isDg=true:=by
   have:=ab.out;rw[List.take_of_length_le (by rw[zaF];exact Nat.le_refl _),ap.out]at this;exact this
  rcases zmn aj.out.1 aj.out.2 h3 with ⟨v,hp,hn⟩ | ⟨hp,hn⟩
  ·have HP:=hidX (Tryz.strconv_ParseInt_10_at64_ok (mkS t) (by rw[zad];omega) v hp);have I:=hidX hn;clear hp hn h3;go_wp2_with (go_at_call 177;refine (HP.out _).mono ?_;rintro e E ⟨rfl,ak⟩;have ag:Below w.heap.size w E:=(by rcases ak with rfl | ⟨u,rfl⟩ <;> first | exact Below.refl _ _ | exact Lib.bytesWorld_below _ _ _);clear ak);go_region;go_wp2
   go_ret2
   exact ⟨v,true,rfl,I.out,zeY ag⟩
  have HP:=hidX (Tryz.strconv_ParseInt_10_at64_range_var (mkS t) (by rw[zad];omega) hp tp p w ao.out);have I:=hidX hn;clear hp hn h3;go_wp2_with (go_at_call 177;refine HP.out.mono ?_;rintro e E ⟨N,rfl,_,_,ag⟩);go_region;go_wp2
  go_ret2
  exact IPost.no _ rfl I.out (zeY ag)
theorem zgx : Tryz.prog.globalNamed "strconv.ErrRange" = some 7 := by kernel_rfl
def ziQ (w : World) : Prop := ∃ tp p, w.var? Tryz.prog "strconv.ErrRange" = some #[.iface tp p]
theorem ziQ.below{w w':World}(h:ziQ w)(hb:Below w.heap.size w w'):ziQ w':=by
 obtain ⟨tp,p,h⟩:=h;refine ⟨tp,p,var?_below hb zgx ?_ h⟩;by_cases hg:7<w.heap.size
 ·exact hg
 unfold World.var? at h;rw[zgx]at h;simp only[Option.bind_some]at h;rw[Array.getElem?_eq_none (by omega)]at h
 cases h
def pkind(t:Bs):Int:=if (zbj t).isSome then 48 else if gSym t then 97 else if zbW t then 63 else if zaH t≠0 then 61 else if t∈arTx then 43 else if t=[95] then 95 else if t=[61,62] then 62 else -1
def ptext(t:Bs):Bs:=if (zbj t).isSome then [] else if gSym t then t else if zbW t then t.tail else if zaH t≠0 then t else if t∈arTx then t else []
def pwV(k pos:Int)(t:Bs)(n:Int):Value:=.agg #[.int .i32 k,.int .i64 pos,.string (mkS t),.int .i64 n]
theorem has63(t:Bs):Lib.hasPrefix t [63]=decide (t.head?=some 63):=by
 unfold Lib.hasPrefix
 cases t with
 | nil=>rfl
 | cons b r=>
  by_cases h:b=63
  ·subst h;simp
  have E:¬ (63:UInt8)=b:=fun e=>h e.symm;have e:((63:UInt8)==b)=false:=by simpa using E
  simp[List.isPrefixOf,h,e]
theorem trim63{t:Bs}(h:t.head?=some 63):Lib.trimPrefix t [63]=t.tail:=by
 unfold Lib.trimPrefix;rw[has63,decide_eq_true h];simp
def pwL(k pos:Int)(t:Bs)(n:Int):List Value:=[.int .i32 k,.int .i64 pos,.string (mkS t),.int .i64 n]
theorem zbb(k pos:Int)(t:Bs)(n:Int):∀ v∈pwL k pos t n,v.oneCell'=true:=by
 intro u E;simp[pwL]at E;rcases E with rfl | rfl | rfl | rfl <;> rfl
theorem zaM:(Tryz.prog.info? 131).map (·.size)=some 4:=by kernel_rfl
theorem zdR{k:Int}{x t:Bs}{n:Int}(h1:pkind t=k)(h2:ptext t=x)(h3:mnum t=n):Ending.returned (.agg (pwL k 0 x n).toArray)=.returned (pwV (pkind t) 0 (ptext t) (mnum t)):=by
 rw[h1,h2,h3];rfl
theorem znu{t:Bs}(h:t∈arTx):∃ b,t=[b]:=by
 simp[arTx]at h;rcases h with h | h | h | h | h <;> exact ⟨_,h⟩
theorem ziF{t:Bs}(E:0<(mkS t).size)(h1:t.length=1):isAr ((mkS t)[0].toNat:Int)=decide (t∈arTx):=by
 rw[zpz]
 match t,h1 with
 | [b],_=>rfl
theorem zhH(t:Bs)(w:World)(hl:t.length<=20000)(hE:ziQ w)(hT:zcu w 1 1):Calls Tryz.prog 161 #[.string (mkS t)] w fun e w'=>e=.returned (pwV (pkind t) 0 (ptext t) (mnum t))/\Below w.heap.size w w':=by
 have HE:=hidX hE;have HT:=hidX hT;clear hE hT;have aA:(mkS t).size<=maxLen:=by rw[zad];unfold maxLen;omega
 have aG:t.tail.length<=t.length:=by simp
 go_enter Tryz.func161,Tryz.ntmps161;go_upto_region 1 with fail
 refine zaf ?_;intro wb E aB;have ap:w.heap.size<wb.heap.size:=zab aB;have aq:=hidX aB;have ar:Hid (Calls Tryz.prog 171 #[.string (mkS t)] wb (IPost t wb)):=(by
  obtain ⟨tp,p,h⟩:=HE.out.below E;exact zjr t wb hl tp p h)
 have aF:=hidX (HT.out.below E);clear aB
 cases hn:zbj t with
 | some n=>
  have ag:mnum t=n:=by unfold mnum;rw[hn];rfl
  have Z:Hid (Ending.returned (.agg (pwL 48 0 [] n).toArray)=.returned (pwV (pkind t) 0 (ptext t) (mnum t))):=zdR (by unfold pkind;simp[hn]) (by unfold ptext;simp[hn]) ag;go_wp2_with (first | (go_at_call 171;refine ar.out.mono ?_;intro e w1 hp;obtain ⟨rfl,ad⟩:=hp.got hn;have ae:=(ad.block _ ap).trans aq.out) | (refine zac (by rfl) 131 (.tmp 2) (.tmp 14) (by rfl) w.heap.size (pwL 48 0 [] n) (by rfl) (by rfl) _ 131 ae (by rfl) zaM (zbb _ _ _ _) ?_;intro w3 X O) | fail);have U:=run_loadVar_mid (P:=Tryz.prog) w3 w.heap.size 0 131 (pwL 48 0 [] n) _ (zal X.out) Tryz.underlying131 rfl zaM
  go_frame
  exact bodyPost_ret (v:=.agg (pwL 48 0 [] n).toArray) (by simp[results,Tryz.results161,asAddr,U]) rfl ⟨Z.out,(E.trans (ad.mono E.size)).trans (O.out.below (Nat.le_refl _))⟩
 | none=>
  have ag:mnum t=0:=by unfold mnum;rw[hn];rfl
  cases I:gSym t with
  | true=>
   have aw:Hid (∀ w',Calls Tryz.prog 96 #[.string (mkS (t))] w' fun e w1=>e=.returned (.bool true)/\w1=w'):=fun w'=>(zaR (mkS t) w' aA).mono fun e w1 h=>⟨by rw[h.1,<- I];rfl,h.2⟩
   have Z:Hid (Ending.returned (.agg (pwL 97 0 t 0).toArray)=.returned (pwV (pkind t) 0 (ptext t) (mnum t))):=zdR (by unfold pkind;simp[hn,I]) (by unfold ptext;simp[hn,I]) ag;go_wp2_with (first | (go_at_call 171;refine ar.out.mono ?_;intro e w1 hp;obtain ⟨m,rfl,ad⟩:=hp.not hn;have ae:=(ad.block _ ap).trans aq.out) | (go_at_call 96;refine (aw.out _).mono ?_;rintro e w2 ⟨rfl,hw⟩;rw[hw];clear hw w2) | (refine zac (by rfl) 131 (.tmp 2) (.tmp 18) (by rfl) w.heap.size (pwL 97 0 t 0) (by rfl) (by rfl) _ 131 ae (by rfl) zaM (zbb _ _ _ _) ?_;intro w3 X O) | fail);have U:=run_loadVar_mid (P:=Tryz.prog) w3 w.heap.size 0 131 (pwL 97 0 t 0) _ (zal X.out) Tryz.underlying131 rfl zaM
   go_frame
   exact bodyPost_ret (v:=.agg (pwL 97 0 t 0).toArray) (by simp[results,Tryz.results161,asAddr,U]) rfl ⟨Z.out,(E.trans (ad.mono E.size)).trans (O.out.below (Nat.le_refl _))⟩
  | false=>
   have aw:Hid (∀ w',Calls Tryz.prog 96 #[.string (mkS (t))] w' fun e w1=>e=.returned (.bool false)/\w1=w'):=fun w'=>(zaR (mkS t) w' aA).mono fun e w1 h=>⟨by rw[h.1,<- I];rfl,h.2⟩
   by_cases h63:t.head?=some 63
   ·have ay:Hid (∀ w',Calls Tryz.prog 172 #[.string (mkS t),.string ⟨#[63]⟩] w' fun e w1=>e=.returned (.tuple #[.string (mkS t.tail),.bool true])/\w1=w'):=fun w'=>(Tryz.strings_CutPrefix (mkS t) ⟨#[63]⟩ w').mono fun e w1 h=>⟨by rw[h.1,<- trim63 h63,<- show Lib.hasPrefix t [63]=true by rw[has63,decide_eq_true h63]];rfl,h.2⟩
    have aC:(mkS t.tail).size<=maxLen:=by rw[zad];unfold maxLen;omega
    cases az:gSym t.tail with
    | true=>
     have hv:zbW t=true:=by unfold zbW;rw[decide_eq_true h63,az];rfl
     have aD:Hid (∀ w',Calls Tryz.prog 96 #[.string (mkS (t.tail))] w' fun e w1=>e=.returned (.bool true)/\w1=w'):=fun w'=>(zaR (mkS t.tail) w' aC).mono fun e w1 h=>⟨by rw[h.1,<- az];rfl,h.2⟩
     have Z:Hid (Ending.returned (.agg (pwL 63 0 t.tail 0).toArray)=.returned (pwV (pkind t) 0 (ptext t) (mnum t))):=zdR (by unfold pkind;simp[hn,I,hv]) (by unfold ptext;simp[hn,I,hv]) ag;go_upto_region 6 with (first | (go_at_call 171;refine ar.out.mono ?_;intro e w1 hp;obtain ⟨m,rfl,ad⟩:=hp.not hn;have ae:=(ad.block _ ap).trans aq.out) | (go_at_call 96;refine (aw.out _).mono ?_;rintro e w2 ⟨rfl,hw⟩;rw[hw];clear hw w2) | fail);go_wp2_with (first | (go_at_call 172;refine (ay.out _).mono ?_;rintro e w2 ⟨rfl,hw⟩;rw[hw];clear hw w2) | (go_at_call 96;refine (aD.out _).mono ?_;rintro e w2 ⟨rfl,hw⟩;rw[hw];clear hw w2) | (refine zac (by rfl) 131 (.tmp 2) (.tmp 30) (by rfl) w.heap.size (pwL 63 0 t.tail 0) (by rfl) (by rfl) _ 131 ae (by rfl) zaM (zbb _ _ _ _) ?_;intro w3 X O) | fail);have U:=run_loadVar_mid (P:=Tryz.prog) w3 w.heap.size 0 131 (pwL 63 0 t.tail 0) _ (zal X.out) Tryz.underlying131 rfl zaM
     go_frame
     exact bodyPost_ret (v:=.agg (pwL 63 0 t.tail 0).toArray) (by simp[results,Tryz.results161,asAddr,U]) rfl ⟨Z.out,(E.trans (ad.mono E.size)).trans (O.out.below (Nat.le_refl _))⟩
    | false=>
     have hv:zbW t=false:=by unfold zbW;rw[az,Bool.and_false]
     have aD:Hid (∀ w',Calls Tryz.prog 96 #[.string (mkS (t.tail))] w' fun e w1=>e=.returned (.bool false)/\w1=w'):=fun w'=>(zaR (mkS t.tail) w' aC).mono fun e w1 h=>⟨by rw[h.1,<- az];rfl,h.2⟩
     go_upto_region 6 with (first | (go_at_call 171;refine ar.out.mono ?_;intro e w1 hp;obtain ⟨m,rfl,ad⟩:=hp.not hn;have ae:=(ad.block _ ap).trans aq.out) | (go_at_call 96;refine (aw.out _).mono ?_;rintro e w2 ⟨rfl,hw⟩;rw[hw];clear hw w2) | fail);go_upto_region 9 with (first | (go_at_call 172;refine (ay.out _).mono ?_;rintro e w2 ⟨rfl,hw⟩;rw[hw];clear hw w2) | (go_at_call 96;refine (aD.out _).mono ?_;rintro e w2 ⟨rfl,hw⟩;rw[hw];clear hw w2) | fail);clear h63 aC aG aA;have au:=hidX (zgd t w1 ((aF.out.below ad)));by_cases G:zaH t=0
     ·have aE:((zaH t:Int) != 0)=false:=by rw[G];rfl
      go_upto_region 11 with (go_at_call 173;refine au.out.mono ?_;rintro e w2 ⟨rfl,hw⟩;rw[hw];clear hw w2);by_cases ab:t∈arTx
      ·obtain ⟨b,hb⟩:=znu ab;have ax:(((mkS t).size:Int)==1)=true:=by rw[zad,hb];rfl
       have ak:0<(mkS t).size:=by rw[zad,hb];exact Nat.one_pos
       have j0:(0:Int)<((mkS t).size:Int):=by omega
       have al:Hid (∀ w',Calls Tryz.prog 174 #[.int .u8 ((mkS t)[0].toNat:Int)] w' fun e w1=>e=.returned (.bool true)/\w1=w'):=fun w'=>(zbN _ (by omega) (by have:=UInt8.toNat_lt (mkS t)[0];omega) w').mono fun e w1 h=>⟨by rw[h.1,ziF ak (by rw[hb];rfl),decide_eq_true ab],h.2⟩
       have Z:Hid (Ending.returned (.agg (pwL 43 0 t 0).toArray)=.returned (pwV (pkind t) 0 (ptext t) (mnum t))):=zdR (by unfold pkind;simp[hn,I,hv,G,ab]) (by unfold ptext;simp[hn,I,hv,G,ab]) ag;clear hb ab G;go_wp2_with (first | (go_at_call 174;refine (al.out _).mono ?_;rintro e w2 ⟨rfl,hw⟩;rw[hw];clear hw w2) | (refine zac (by rfl) 131 (.tmp 2) (.tmp 45) (by rfl) w.heap.size (pwL 43 0 t 0) (by rfl) (by rfl) _ 131 ae (by rfl) zaM (zbb _ _ _ _) ?_;intro w3 X O) | fail);have U:=run_loadVar_mid (P:=Tryz.prog) w3 w.heap.size 0 131 (pwL 43 0 t 0) _ (zal X.out) Tryz.underlying131 rfl zaM
       go_frame
       exact bodyPost_ret (v:=.agg (pwL 43 0 t 0).toArray) (by simp[results,Tryz.results161,asAddr,U]) rfl ⟨Z.out,(E.trans (ad.mono E.size)).trans (O.out.below (Nat.le_refl _))⟩
      by_cases hs:(mkS t).size=1
      focus
       have ax:(((mkS t).size:Int)==1)=true:=by rw[hs];rfl
       have ak:0<(mkS t).size:=by omega
       have j0:(0:Int)<((mkS t).size:Int):=by omega
       have al:Hid (∀ w',Calls Tryz.prog 174 #[.int .u8 ((mkS t)[0].toNat:Int)] w' fun e w1=>e=.returned (.bool false)/\w1=w'):=fun w'=>(zbN _ (by omega) (by have:=UInt8.toNat_lt (mkS t)[0];omega) w').mono fun e w1 h=>⟨by rw[h.1,ziF ak (by rw[<- zad];exact hs),decide_eq_false ab],h.2⟩
       go_upto_region 13 with (go_at_call 174;refine (al.out _).mono ?_;rintro e w2 ⟨rfl,hw⟩;rw[hw];clear hw w2)
      rotate_left
      focus
       have ax:(((mkS t).size:Int)==1)=false:=beqF (by omega);go_upto_region 13 with fail
      rotate_left
      all_goals
       have ao:=zbB (mkS t) [95];have aj:=zbB (mkS t) [61,62];rw[zbX]at ao aj;by_cases af:t=[95]
       ·rw[decide_eq_true af]at ao;have Z:Hid (Ending.returned (.agg (pwL 95 0 [] 0).toArray)=.returned (pwV (pkind t) 0 (ptext t) (mnum t))):=zdR (by unfold pkind;rw[if_neg (by rw[hn];decide),if_neg (by rw[I];decide),if_neg (by rw[hv];decide),if_neg (fun h=>h G),if_neg ab,if_pos af]) (by unfold ptext;rw[if_neg (by rw[hn];decide),if_neg (by rw[I];decide),if_neg (by rw[hv];decide),if_neg (fun h=>h G),if_neg ab]) ag;clear af aj;go_wp2_with (first | (refine zac (by rfl) 131 (.tmp 2) (.tmp 49) (by rfl) w.heap.size (pwL 95 0 [] 0) (by rfl) (by rfl) _ 131 ae (by rfl) zaM (zbb _ _ _ _) ?_;intro w3 X O) | fail);have U:=run_loadVar_mid (P:=Tryz.prog) w3 w.heap.size 0 131 (pwL 95 0 [] 0) _ (zal X.out) Tryz.underlying131 rfl zaM
        go_frame
        exact bodyPost_ret (v:=.agg (pwL 95 0 [] 0).toArray) (by simp[results,Tryz.results161,asAddr,U]) rfl ⟨Z.out,(E.trans (ad.mono E.size)).trans (O.out.below (Nat.le_refl _))⟩
       rw[decide_eq_false af]at ao;by_cases ah:t=[61,62]
       ·rw[decide_eq_true ah]at aj;have Z:Hid (Ending.returned (.agg (pwL 62 0 [] 0).toArray)=.returned (pwV (pkind t) 0 (ptext t) (mnum t))):=zdR (by unfold pkind;rw[if_neg (by rw[hn];decide),if_neg (by rw[I];decide),if_neg (by rw[hv];decide),if_neg (fun h=>h G),if_neg ab,if_neg af,if_pos ah]) (by unfold ptext;rw[if_neg (by rw[hn];decide),if_neg (by rw[I];decide),if_neg (by rw[hv];decide),if_neg (fun h=>h G),if_neg ab]) ag;clear af ah;go_wp2_with (first | (refine zac (by rfl) 131 (.tmp 2) (.tmp 52) (by rfl) w.heap.size (pwL 62 0 [] 0) (by rfl) (by rfl) _ 131 ae (by rfl) zaM (zbb _ _ _ _) ?_;intro w3 X O) | fail);have U:=run_loadVar_mid (P:=Tryz.prog) w3 w.heap.size 0 131 (pwL 62 0 [] 0) _ (zal X.out) Tryz.underlying131 rfl zaM
        go_frame
        exact bodyPost_ret (v:=.agg (pwL 62 0 [] 0).toArray) (by simp[results,Tryz.results161,asAddr,U]) rfl ⟨Z.out,(E.trans (ad.mono E.size)).trans (O.out.below (Nat.le_refl _))⟩
       rw[decide_eq_false ah]at aj;have Z:Hid (Ending.returned (.agg (pwL (-1) 0 [] 0).toArray)=.returned (pwV (pkind t) 0 (ptext t) (mnum t))):=zdR (by unfold pkind;rw[if_neg (by rw[hn];decide),if_neg (by rw[I];decide),if_neg (by rw[hv];decide),if_neg (fun h=>h G),if_neg ab,if_neg af,if_neg ah]) (by unfold ptext;rw[if_neg (by rw[hn];decide),if_neg (by rw[I];decide),if_neg (by rw[hv];decide),if_neg (fun h=>h G),if_neg ab]) ag;clear af ah;go_wp2_with (first | (refine zac (by rfl) 131 (.tmp 2) (.tmp 53) (by rfl) w.heap.size (pwL (-1) 0 [] 0) (by rfl) (by rfl) _ 131 ae (by rfl) zaM (zbb _ _ _ _) ?_;intro w3 X O) | fail);have U:=run_loadVar_mid (P:=Tryz.prog) w3 w.heap.size 0 131 (pwL (-1) 0 [] 0) _ (zal X.out) Tryz.underlying131 rfl zaM
       go_frame
       exact bodyPost_ret (v:=.agg (pwL (-1) 0 [] 0).toArray) (by simp[results,Tryz.results161,asAddr,U]) rfl ⟨Z.out,(E.trans (ad.mono E.size)).trans (O.out.below (Nat.le_refl _))⟩
     have aE:((zaH t:Int) != 0)=true:=by simp;omega
     have Z:Hid (Ending.returned (.agg (pwL 61 0 t 0).toArray)=.returned (pwV (pkind t) 0 (ptext t) (mnum t))):=zdR (by unfold pkind;simp[hn,I,hv,G]) (by unfold ptext;simp[hn,I,hv,G]) ag;clear G;go_wp2_with (first | (go_at_call 173;refine au.out.mono ?_;rintro e w2 ⟨rfl,hw⟩;rw[hw];clear hw w2) | (refine zac (by rfl) 131 (.tmp 2) (.tmp 35) (by rfl) w.heap.size (pwL 61 0 t 0) (by rfl) (by rfl) _ 131 ae (by rfl) zaM (zbb _ _ _ _) ?_;intro w3 X O) | fail);have U:=run_loadVar_mid (P:=Tryz.prog) w3 w.heap.size 0 131 (pwL 61 0 t 0) _ (zal X.out) Tryz.underlying131 rfl zaM
     go_frame
     exact bodyPost_ret (v:=.agg (pwL 61 0 t 0).toArray) (by simp[results,Tryz.results161,asAddr,U]) rfl ⟨Z.out,(E.trans (ad.mono E.size)).trans (O.out.below (Nat.le_refl _))⟩
   have hv:zbW t=false:=by unfold zbW;rw[decide_eq_false h63,Bool.false_and]
   have ay:Hid (∀ w',Calls Tryz.prog 172 #[.string (mkS t),.string ⟨#[63]⟩] w' fun e w1=>e=.returned (.tuple #[.string (mkS (Lib.trimPrefix t [63])),.bool false])/\w1=w'):=fun w'=>(Tryz.strings_CutPrefix (mkS t) ⟨#[63]⟩ w').mono fun e w1 h=>⟨by rw[h.1,<- show Lib.hasPrefix t [63]=false by rw[has63,decide_eq_false h63]];rfl,h.2⟩
   go_upto_region 6 with (first | (go_at_call 171;refine ar.out.mono ?_;intro e w1 hp;obtain ⟨m,rfl,ad⟩:=hp.not hn;have ae:=(ad.block _ ap).trans aq.out) | (go_at_call 96;refine (aw.out _).mono ?_;rintro e w2 ⟨rfl,hw⟩;rw[hw];clear hw w2) | fail);go_upto_region 9 with (go_at_call 172;refine (ay.out _).mono ?_;rintro e w2 ⟨rfl,hw⟩;rw[hw];clear hw w2);clear h63 aG aA;have au:=hidX (zgd t w1 ((aF.out.below ad)));by_cases G:zaH t=0
   ·have aE:((zaH t:Int) != 0)=false:=by rw[G];rfl
    go_upto_region 11 with (go_at_call 173;refine au.out.mono ?_;rintro e w2 ⟨rfl,hw⟩;rw[hw];clear hw w2);by_cases ab:t∈arTx
    ·obtain ⟨b,hb⟩:=znu ab;have ax:(((mkS t).size:Int)==1)=true:=by rw[zad,hb];rfl
     have ak:0<(mkS t).size:=by rw[zad,hb];exact Nat.one_pos
     have j0:(0:Int)<((mkS t).size:Int):=by omega
     have al:Hid (∀ w',Calls Tryz.prog 174 #[.int .u8 ((mkS t)[0].toNat:Int)] w' fun e w1=>e=.returned (.bool true)/\w1=w'):=fun w'=>(zbN _ (by omega) (by have:=UInt8.toNat_lt (mkS t)[0];omega) w').mono fun e w1 h=>⟨by rw[h.1,ziF ak (by rw[hb];rfl),decide_eq_true ab],h.2⟩
     have Z:Hid (Ending.returned (.agg (pwL 43 0 t 0).toArray)=.returned (pwV (pkind t) 0 (ptext t) (mnum t))):=zdR (by unfold pkind;simp[hn,I,hv,G,ab]) (by unfold ptext;simp[hn,I,hv,G,ab]) ag;clear hb ab G;go_wp2_with (first | (go_at_call 174;refine (al.out _).mono ?_;rintro e w2 ⟨rfl,hw⟩;rw[hw];clear hw w2) | (refine zac (by rfl) 131 (.tmp 2) (.tmp 45) (by rfl) w.heap.size (pwL 43 0 t 0) (by rfl) (by rfl) _ 131 ae (by rfl) zaM (zbb _ _ _ _) ?_;intro w3 X O) | fail);have U:=run_loadVar_mid (P:=Tryz.prog) w3 w.heap.size 0 131 (pwL 43 0 t 0) _ (zal X.out) Tryz.underlying131 rfl zaM
     go_frame
     exact bodyPost_ret (v:=.agg (pwL 43 0 t 0).toArray) (by simp[results,Tryz.results161,asAddr,U]) rfl ⟨Z.out,(E.trans (ad.mono E.size)).trans (O.out.below (Nat.le_refl _))⟩
    by_cases hs:(mkS t).size=1
    focus
     have ax:(((mkS t).size:Int)==1)=true:=by rw[hs];rfl
     have ak:0<(mkS t).size:=by omega
     have j0:(0:Int)<((mkS t).size:Int):=by omega
     have al:Hid (∀ w',Calls Tryz.prog 174 #[.int .u8 ((mkS t)[0].toNat:Int)] w' fun e w1=>e=.returned (.bool false)/\w1=w'):=fun w'=>(zbN _ (by omega) (by have:=UInt8.toNat_lt (mkS t)[0];omega) w').mono fun e w1 h=>⟨by rw[h.1,ziF ak (by rw[<- zad];exact hs),decide_eq_false ab],h.2⟩
     go_upto_region 13 with (go_at_call 174;refine (al.out _).mono ?_;rintro e w2 ⟨rfl,hw⟩;rw[hw];clear hw w2)
    rotate_left
    focus
     have ax:(((mkS t).size:Int)==1)=false:=beqF (by omega);go_upto_region 13 with fail
    rotate_left
    all_goals
     have ao:=zbB (mkS t) [95];have aj:=zbB (mkS t) [61,62];rw[zbX]at ao aj;by_cases af:t=[95]
     ·rw[decide_eq_true af]at ao;have Z:Hid (Ending.returned (.agg (pwL 95 0 [] 0).toArray)=.returned (pwV (pkind t) 0 (ptext t) (mnum t))):=zdR (by unfold pkind;rw[if_neg (by rw[hn];decide),if_neg (by rw[I];decide),if_neg (by rw[hv];decide),if_neg (fun h=>h G),if_neg ab,if_pos af]) (by unfold ptext;rw[if_neg (by rw[hn];decide),if_neg (by rw[I];decide),if_neg (by rw[hv];decide),if_neg (fun h=>h G),if_neg ab]) ag;clear af aj;go_wp2_with (first | (refine zac (by rfl) 131 (.tmp 2) (.tmp 49) (by rfl) w.heap.size (pwL 95 0 [] 0) (by rfl) (by rfl) _ 131 ae (by rfl) zaM (zbb _ _ _ _) ?_;intro w3 X O) | fail);have U:=run_loadVar_mid (P:=Tryz.prog) w3 w.heap.size 0 131 (pwL 95 0 [] 0) _ (zal X.out) Tryz.underlying131 rfl zaM
      go_frame
      exact bodyPost_ret (v:=.agg (pwL 95 0 [] 0).toArray) (by simp[results,Tryz.results161,asAddr,U]) rfl ⟨Z.out,(E.trans (ad.mono E.size)).trans (O.out.below (Nat.le_refl _))⟩
     rw[decide_eq_false af]at ao;by_cases ah:t=[61,62]
     ·rw[decide_eq_true ah]at aj;have Z:Hid (Ending.returned (.agg (pwL 62 0 [] 0).toArray)=.returned (pwV (pkind t) 0 (ptext t) (mnum t))):=zdR (by unfold pkind;rw[if_neg (by rw[hn];decide),if_neg (by rw[I];decide),if_neg (by rw[hv];decide),if_neg (fun h=>h G),if_neg ab,if_neg af,if_pos ah]) (by unfold ptext;rw[if_neg (by rw[hn];decide),if_neg (by rw[I];decide),if_neg (by rw[hv];decide),if_neg (fun h=>h G),if_neg ab]) ag;clear af ah;go_wp2_with (first | (refine zac (by rfl) 131 (.tmp 2) (.tmp 52) (by rfl) w.heap.size (pwL 62 0 [] 0) (by rfl) (by rfl) _ 131 ae (by rfl) zaM (zbb _ _ _ _) ?_;intro w3 X O) | fail);have U:=run_loadVar_mid (P:=Tryz.prog) w3 w.heap.size 0 131 (pwL 62 0 [] 0) _ (zal X.out) Tryz.underlying131 rfl zaM
      go_frame
      exact bodyPost_ret (v:=.agg (pwL 62 0 [] 0).toArray) (by simp[results,Tryz.results161,asAddr,U]) rfl ⟨Z.out,(E.trans (ad.mono E.size)).trans (O.out.below (Nat.le_refl _))⟩
     rw[decide_eq_false ah]at aj;have Z:Hid (Ending.returned (.agg (pwL (-1) 0 [] 0).toArray)=.returned (pwV (pkind t) 0 (ptext t) (mnum t))):=zdR (by unfold pkind;rw[if_neg (by rw[hn];decide),if_neg (by rw[I];decide),if_neg (by rw[hv];decide),if_neg (fun h=>h G),if_neg ab,if_neg af,if_neg ah]) (by unfold ptext;rw[if_neg (by rw[hn];decide),if_neg (by rw[I];decide),if_neg (by rw[hv];decide),if_neg (fun h=>h G),if_neg ab]) ag;clear af ah;go_wp2_with (first | (refine zac (by rfl) 131 (.tmp 2) (.tmp 53) (by rfl) w.heap.size (pwL (-1) 0 [] 0) (by rfl) (by rfl) _ 131 ae (by rfl) zaM (zbb _ _ _ _) ?_;intro w3 X O) | fail);have U:=run_loadVar_mid (P:=Tryz.prog) w3 w.heap.size 0 131 (pwL (-1) 0 [] 0) _ (zal X.out) Tryz.underlying131 rfl zaM
     go_frame
     exact bodyPost_ret (v:=.agg (pwL (-1) 0 [] 0).toArray) (by simp[results,Tryz.results161,asAddr,U]) rfl ⟨Z.out,(E.trans (ad.mono E.size)).trans (O.out.below (Nat.le_refl _))⟩
   have aE:((zaH t:Int) != 0)=true:=by simp;omega
   have Z:Hid (Ending.returned (.agg (pwL 61 0 t 0).toArray)=.returned (pwV (pkind t) 0 (ptext t) (mnum t))):=zdR (by unfold pkind;simp[hn,I,hv,G]) (by unfold ptext;simp[hn,I,hv,G]) ag;clear G;go_wp2_with (first | (go_at_call 173;refine au.out.mono ?_;rintro e w2 ⟨rfl,hw⟩;rw[hw];clear hw w2) | (refine zac (by rfl) 131 (.tmp 2) (.tmp 35) (by rfl) w.heap.size (pwL 61 0 t 0) (by rfl) (by rfl) _ 131 ae (by rfl) zaM (zbb _ _ _ _) ?_;intro w3 X O) | fail);have U:=run_loadVar_mid (P:=Tryz.prog) w3 w.heap.size 0 131 (pwL 61 0 t 0) _ (zal X.out) Tryz.underlying131 rfl zaM
   go_frame
   exact bodyPost_ret (v:=.agg (pwL 61 0 t 0).toArray) (by simp[results,Tryz.results161,asAddr,U]) rfl ⟨Z.out,(E.trans (ad.mono E.size)).trans (O.out.below (Nat.le_refl _))⟩
end Go.Proofs.YtjjjagepnnbebaaGreatDoor
