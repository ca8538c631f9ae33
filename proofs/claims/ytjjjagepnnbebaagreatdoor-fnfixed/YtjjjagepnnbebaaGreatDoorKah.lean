/-
  OUR OWN TEXT. Tx1, Ms1, one behind the other.
-/
import Derived.Test.YtjjjagepnnbebaaGreatDoorKac
import Derived.Lib.Join
import Derived.Lib.ItoaLen
import Derived.Laws.Strings
namespace Go.Proofs.YtjjjagepnnbebaaGreatDoor
abbrev Bs:=List UInt8
def bsOf(s:ByteArray):Bs:=s.data.toList
def mkS(l:Bs):ByteArray:=⟨l.toArray⟩
theorem zbX(l:Bs):bsOf (mkS l)=l:=rfl
theorem zb2(s:ByteArray):mkS (bsOf s)=s:=by
 cases s
 simp[mkS,bsOf]
theorem zaV(a b:Bs):mkS a ++ mkS b=mkS (a ++ b):=by
 apply ByteArray.ext;simp[mkS,ByteArray.data_append]
theorem zez(s:ByteArray)(b:Bs):mkS b ++ s=mkS (b ++ bsOf s):=by rw[<- zaV,zb2]
theorem zad(l:Bs):(mkS l).size=l.length:=by simp[mkS,ByteArray.size]
theorem zaF(s:ByteArray):(bsOf s).length=s.size:=Array.length_toList
def txV(v:V):Bs:=if v.kind=1 then bsOf v.sym else Lib.itoa v.num
def opTx:List Bs:=[[61],[33,61],[60],[62],[60,61],[62,61]]
def txO(t:Tm):Bs:=if isE t.var then txV t.val else 63 :: bsOf t.var
def txT(t:Tm):Bs:=
 if t.kind=1 then txV t.val
 else if t.kind=2 then 63 :: bsOf t.var
 else if t.kind=3 then 40 :: (opTx.getD (t.op.toNat - 1) [] ++ 32 :: (txO t ++ [41]))
 else [95]
def txE:Nat->List Ex->Nat->Bs
 | 0,_,_=>[]
 | n+1,es,i=>match es[i]? with
  | none=>[]
  | some e=>
   if e.kind=1 then 63 :: bsOf e.var
   else if e.kind=2 then 40 :: UInt8.ofNat e.op.toNat :: 32 :: (txE n es e.a.toNat ++ 32 :: (txE n es e.b.toNat ++ [41]))
   else txV e.val
def zaG(es:List Ex)(l:List Int):Bs:=l.flatMap fun x=>32 :: txE 60 es x.toNat
def addB:Bs:=[97,100,100]
def zeO:Bs:=[100,114,111,112]
def modB:Bs:=[109,111,100]
def zg6:Bs:=[104,97,108,116]
def zhk:Bs:=[40,114,117,108,101,32]
def notX:Bs:=[110,111,116]
def zbJ:Bs:=[10,32,32]
def zcz:Bs:=[61,62]
def zbe(a:Ac):Bs:=
 if a.kind=1 then addB ++ 32 :: bsOf a.cls
 else if a.kind=2 then zeO ++ 32 :: Lib.itoa a.k
 else if a.kind=3 then modB ++ 32 :: Lib.itoa a.k
 else zg6
def txA(es:List Ex)(a:Ac):Bs:=40 :: (zbe a ++ (zaG es a.args ++ [41]))
def txTs(l:List Tm):Bs:=l.flatMap fun t=>32 :: txT t
def txP(p:Pt):Bs:=40 :: ((if p.neg then notX ++ [32] else []) ++ (bsOf p.cls ++ (txTs p.terms ++ [41])))
def txPs(l:List Pt):Bs:=l.flatMap fun p=>zbJ ++ txP p
def txAs(es:List Ex)(l:List Ac):Bs:=l.flatMap fun a=>zbJ ++ txA es a
def txHd(r:Ru):Bs:=zhk ++ (bsOf r.name ++ 32 :: Lib.itoa r.sal)
def txR(r:Ru):Bs:=txHd r ++ (txPs r.pats ++ (zbJ ++ (zcz ++ (txAs r.exprs r.acts ++ [41,10]))))
def txRs(l:List Ru):Bs:=l.flatMap txR
def prnt(l:List Ru):Bs:=if (chk l).1=0 then txRs l else []
theorem zcO(E:Bs)(r:List Bs):Lib.joinTail E r=r.flatMap (fun x=>E ++ x):=by
 unfold Lib.joinTail;rw[List.flatMap_def]
theorem zgQ(x y:Bs)(es:List Ex)(l:List Int):Lib.join (x :: y :: l.map fun i=>txE 60 es i.toNat) [32]=x ++ 32 :: (y ++ zaG es l):=by
 rw[Lib.join_cons,zcO];simp[zaG,List.flatMap_map]
theorem zgq(x y:Bs):Lib.join [x,y] [32]=x ++ 32 :: y:=by
 rw[Lib.join_cons,zcO];simp
theorem zib(x y z:Bs):Lib.join [x,y,z] [32]=x ++ 32 :: (y ++ 32 :: z):=by
 rw[Lib.join_cons,zcO];simp
theorem zmo(x:Bs)(l:List Tm):Lib.join (x :: l.map txT) [32]=x ++ txTs l:=by
 rw[Lib.join_cons,zcO];simp[txTs,List.flatMap_map]
theorem zkG(x y:Bs)(l:List Tm):Lib.join (x :: y :: l.map txT) [32]=x ++ 32 :: (y ++ txTs l):=by
 rw[Lib.join_cons,zcO];simp[txTs,List.flatMap_map]
theorem zlJ(h:Bs)(ps:List Pt)(es:List Ex)(acs:List Ac):Lib.join (h :: (ps.map txP ++ zcz :: acs.map (txA es))) zbJ=h ++ (txPs ps ++ (zbJ ++ (zcz ++ txAs es acs))):=by
 rw[Lib.join_cons,zcO];simp[txPs,txAs,List.flatMap_map]
theorem zfW(n:Nat)(es:List Ex)(i:Nat)(e:Ex)(h:es[i]?=some e):txE (n+1) es i=if e.kind=1 then 63 :: bsOf e.var else if e.kind=2 then 40 :: UInt8.ofNat e.op.toNat :: 32 :: (txE n es e.a.toNat ++ 32 :: (txE n es e.b.toNat ++ [41])) else txV e.val:=by
 rw[txE,h]
def zbr(n:Int):Prop:=-9223372036854775808<=n/\n<=9223372036854775807
theorem znV{l:Bs}(h:gSym l=true):l.length<=20:=by
 unfold gSym at h;simp only[Bool.and_eq_true,decide_eq_true_eq]at h;omega
theorem zdm{s:ByteArray}(h:gSym s.data.toList=true):s.size<=20:=by
 have:=znV h;rw[<- zaF];exact this
theorem zn0{v:V}(h:gVal v=true)(hn:zbr v.num):(txV v).length<=21:=by
 unfold txV;split
 ·rename_i hk;have hv:gVal v=((v.kind==0 && v.sym.toList.isEmpty) || (v.kind==1 && (v.num==0 && gSym v.sym.data.toList))):=rfl;rw[hv,hk]at h;simp at h;have:=znV h.2;have e:bsOf v.sym=v.sym.data.toList:=rfl;rw[e];omega
 exact Lib.itoa_length_le _ hn.1 hn.2
theorem zll{t:Tm}(h:zbo t=true)(hn:zbr t.val.num):(txO t).length<=21:=by
 unfold txO;unfold zbo at h
 cases hv:isE t.var
 ·rw[hv]at h;simp at h;have:=zdm h.1;simp[zaF];omega
 rw[hv]at h;have hb:gVal t.val=true:=by
  cases hg:gVal t.val
  ·rw[hg]at h;simp at h;have h1:t.var.toList.isEmpty=true:=hv;have h2:t.var.data.toList.length=0:=by
    have h3:t.var.data.toList=t.var.toList:=(ByteArray.toList_eq _).symm;rw[h3];simpa using h1
   have E:=h.1;unfold gSym at E;simp[h2]at E
  rfl
 simpa using zn0 hb hn
theorem zkv(k:Nat):(opTx.getD k []).length<=2:=by
 rcases k with _ | _ | _ | _ | _ | _ | k <;> simp[opTx]
theorem znL{t:Tm}(h:gTm t=true)(hn:zbr t.val.num):(txT t).length<=30:=by
 unfold gTm at h;unfold txT;by_cases I:t.kind=1
 ·simp[I]at h;simp[I];have:=zn0 h.2.2 hn;omega
 by_cases G:t.kind=2
 ·simp[G]at h;simp[G];have:=zdm h.2.1;simp[zaF];omega
 by_cases E:t.kind=3
 ·simp[E]at h;simp[E];have:=zll h.2.2 hn;have:=zkv (t.op.toNat - 1);simp at this;omega
 simp[I,G,E]
theorem zeH{α:Type}(f:α->Bool):∀ (l:List α) (k:Nat),zaI f l k=none->∀ x∈l,f x=true
 | [],_,_,x,hx=>by simp at hx
 | y :: r,k,h,x,hx=>by
  unfold zaI at h
  cases hy:f y
  ·rw[hy]at h
   simp at h
  rw[hy]at h
  simp only[if_true]at h
  rcases List.mem_cons.1 hx with rfl | hx
  ·exact hy
  exact zeH f r (k+1) h x hx
theorem zgc{r:Ru}(h:shape r=none):r.pats.length<=6/\∀ p∈r.pats,gPt p=true:=by
 unfold shape at h;split at h
 ·rename_i E;simp only[zck,Bool.and_eq_true,decide_eq_true_eq]at E;refine ⟨E.2.1,?_⟩
  cases hb:zaI gPt r.pats 1 with
  | some i=>rw[hb]at h;cases h
  | none=>exact zeH gPt r.pats 1 hb
 cases h
theorem zlR{pre:List Ru}{r:Ru}(h:(chk1 pre r).1=0):shape r=none/\positives r.pats<=3:=by
 unfold chk1 at h
 cases hs:shape r with
 | some i=>rw[hs]at h;simp at h
 | none=>
  refine ⟨rfl,?_⟩;rw[hs]at h;simp only at h;split at h
  ·simp at h
  split at h
  ·rename_i hp;exact hp.2
  simp at h
theorem zhT:∀ (l pre:List Ru) (k:Nat),(zd1 pre l k).1=0->∀ r∈l,shape r=none/\positives r.pats<=3
 | [],_,_,_,r,hr=>by simp at hr
 | q :: s,pre,k,h,r,hr=>by
  unfold zd1 at h
  split at h
  ·rename_i E
   rcases List.mem_cons.1 hr with rfl | hr
   ·exact zlR E
   exact zhT s _ _ h r hr
  rename_i E
  exact absurd h E
theorem zgB{rs:List Ru}(h:(chk rs).1=0):rs.length<=16/\∀ r∈rs,shape r=none/\positives r.pats<=3:=by
 unfold chk at h;split at h
 ·rename_i hl;exact ⟨hl,zhT rs [] 0 h⟩
 simp at h
end Go.Proofs.YtjjjagepnnbebaaGreatDoor
