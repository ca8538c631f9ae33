/-
  OUR OWN TEXT. Pr3, Rt1, Wt1, Wt2, Mr1, Mr2, one behind the other.
-/
import Derived.Test.YtjjjagepnnbebaaGreatDoorKbh
import Derived.Test.YtjjjagepnnbebaaGreatDoorKbc
namespace Go.Proofs.YtjjjagepnnbebaaGreatDoor
theorem Fine.test:Fine zbM:=(Fine.take 61).and fun o=>Fine.next.and fun x=>by
 intro l h;show zje (if _ then _ else _);split
 ·exact ((Fine.take 41).and fun _=>Fine.ret _) l h
 split
 ·exact ((Fine.take 41).and fun _=>Fine.ret _) l h
 show (3:Int)≠0;decide
theorem Fine.term:Fine zaX:=Fine.next.and fun x=>by
 intro l h;show zje (if _ then _ else _);split
 ·exact h
 split
 ·exact h
 split
 ·exact h
 split
 ·exact Fine.test l h
 show (3:Int)≠0;decide
theorem Fine.pat:Fine pPat:=(Fine.take 97).and fun x=>by
 intro l h;show zje (if _ then _ else _);split
 ·exact (Fine.cls.and fun c=>(Fine.term.list 6).and fun _=>Fine.ret _) l h
 exact ((Fine.term.list 6).and fun _=>Fine.ret _) l h
theorem Fine.bound(n m:Int):Fine (zaW n m):=fun l h=>by
 have:=Fine.next l h;unfold zaW
 cases hr:zaj l with
 | error f=>rw[hr]at this;exact this
 | ok q=>
  obtain ⟨x,r⟩:=q;simp only;split
  ·show (4:Int)≠0;decide
  exact h
theorem Fine.opE{f:Nat}(hf:∀ s,Fine (zaw f s))(s:ES):Fine (pOp f s):=(Fine.take 43).and fun _=>(hf s).and fun p=>(hf p.2).and fun _=>(Fine.take 41).and fun _=>Fine.ret _
theorem Fine.expr:∀ (f:Nat) (s:ES),Fine (zaw f s):=by
 have G:∀ (f:Nat),(∀ s,Fine (fun l=>match f with | 0=>(.error (4,0):Px (Int × ES)) | g+1=>zaw g s l))->∀ s,Fine (zaw f s):=by
  intro f hf s l h;have h1:=Fine.bound (s.2:Int) 60 l h;have h2:=Fine.next l h
  cases hb:zaW (s.2:Int) 60 l with
  | error e=>rw[hb]at h1;rw[zdc hb];exact h1
  | ok u=>
   cases hn:zaj l with
   | error e=>rw[hn]at h2;rw[zdC hb hn];exact h2
   | ok q=>
    obtain ⟨x,l1⟩:=q;rw[hn]at h2;by_cases hk:pkW x=48∨pkW x=97
    ·rw[zcw hb hn hk];exact h2
    by_cases h63:pkW x=63
    ·rw[zdF hb hn h63];exact h2
    by_cases E:pkW x=40
    ·cases f with
     | zero=>
      rw[zex hb hn E];show (4:Int)≠0;decide
     | succ f=>
      rw[zfh hb hn E];exact ((Fine.opE hf _).and fun _=>Fine.ret _) l1 h2
    rw[zcy hb hn hk h63 E];show (3:Int)≠0;decide
 intro f
 induction f with
 | zero=>exact G 0 (fun _ _ _=>show (4:Int)≠0 by decide)
 | succ f I=>exact G (f+1) I
theorem Fine.listE{σ α:Type}{rd:σ->List Wd->Px (α × σ)}(E:∀ s,Fine (rd s)):∀ n s,Fine (zaB rd n s):=by
 intro n
 induction n with
 | zero=>
  intro s l h;have:=Fine.next l h;unfold zaB
  cases hr:zaj l with
  | error f=>rw[hr]at this;exact this
  | ok q=>
   obtain ⟨x,r⟩:=q;rw[hr]at this;simp only;split
   ·exact this
   ·split
    ·show (3:Int)≠0;decide
    ·show (4:Int)≠0;decide
 | succ n G=>
  intro s l h;have:=Fine.next l h;unfold zaB
  cases hr:zaj l with
  | error f=>rw[hr]at this;exact this
  | ok q=>
   obtain ⟨x,r⟩:=q;rw[hr]at this;simp only;split
   ·exact this
   have h2:=E s l h
   cases hv:rd s l with
   | error f=>rw[hv]at h2;exact h2
   | ok q=>
    obtain ⟨⟨v,s1⟩,l1⟩:=q;rw[hv]at h2;have h3:=G s1 l1 h2;simp only
    cases hp:zaB rd n s1 l1 with
    | error f=>rw[hp]at h3;exact h3
    | ok q=>
     obtain ⟨vs,l2⟩:=q;rw[hp]at h3;exact h3
theorem Fine.many{α:Type}{rd:List Wd->Px α}(k:Int)(G:Fine rd):∀ n,Fine (za1 k rd n):=by
 intro n
 induction n with
 | zero=>
  intro l h;have:=Fine.next l h;unfold za1
  cases hr:zaj l with
  | error f=>rw[hr]at this;exact this
  | ok q=>
   obtain ⟨x,r⟩:=q;simp only;split
   ·exact h
   ·split
    ·show (4:Int)≠0;decide
    ·show (3:Int)≠0;decide
 | succ n O=>
  intro l h;have:=Fine.next l h;unfold za1
  cases hr:zaj l with
  | error f=>rw[hr]at this;exact this
  | ok q=>
   obtain ⟨x,r⟩:=q;simp only;split
   ·exact h
   have ht:=Fine.take 40 l h
   cases hk:zai 40 l with
   | error f=>rw[hk]at ht;exact ht
   | ok q=>
    obtain ⟨y,l1⟩:=q;rw[hk]at ht;have E:=G l1 ht;simp only
    cases hp:rd l1 with
    | error f=>rw[hp]at E;exact E
    | ok q=>
     obtain ⟨v,l2⟩:=q;rw[hp]at E;have hi:=O l2 E;simp only
     cases I:za1 k rd n l2 with
     | error f=>rw[I]at hi;exact hi
     | ok q=>
      obtain ⟨vs,l3⟩:=q;rw[I]at hi;exact hi
theorem Fine.manyS{σ α:Type}{rd:σ->List Wd->Px (α × σ)}(k:Int)(G:∀ s,Fine (rd s)):∀ n s,Fine (zaK k rd n s):=by
 intro n
 induction n with
 | zero=>
  intro s l h;have:=Fine.next l h;unfold zaK
  cases hr:zaj l with
  | error f=>rw[hr]at this;exact this
  | ok q=>
   obtain ⟨x,r⟩:=q;simp only;split
   ·exact h
   ·split
    ·show (4:Int)≠0;decide
    ·show (3:Int)≠0;decide
 | succ n O=>
  intro s l h;have:=Fine.next l h;unfold zaK
  cases hr:zaj l with
  | error f=>rw[hr]at this;exact this
  | ok q=>
   obtain ⟨x,r⟩:=q;simp only;split
   ·exact h
   have ht:=Fine.take 40 l h
   cases hk:zai 40 l with
   | error f=>rw[hk]at ht;exact ht
   | ok q=>
    obtain ⟨y,l1⟩:=q;rw[hk]at ht;have E:=G s l1 ht;simp only
    cases hp:rd s l1 with
    | error f=>rw[hp]at E;exact E
    | ok q=>
     obtain ⟨⟨v,s1⟩,l2⟩:=q;rw[hp]at E;have hi:=O s1 l2 E;simp only
     cases I:zaK k rd n s1 l2 with
     | error f=>rw[I]at hi;exact hi
     | ok q=>
      obtain ⟨vs,l3⟩:=q;rw[I]at hi;exact hi
theorem Fine.ref:Fine pRef:=(Fine.take 48).and fun _=>Fine.ret _
theorem Fine.act(s:ES):Fine (pAct s):=(Fine.take 97).and fun x=>by
 intro l h;show zje (if _ then _ else _);split
 ·exact ((Fine.take 41).and fun _=>Fine.ret _) l h
 split
 ·exact (Fine.ref.and fun _=>(Fine.listE (Fine.expr 20) 6 s).and fun _=>Fine.ret _) l h
 split
 ·exact (Fine.ref.and fun _=>(Fine.take 41).and fun _=>Fine.ret _) l h
 split
 ·exact (Fine.cls.and fun _=>(Fine.listE (Fine.expr 20) 6 s).and fun _=>Fine.ret _) l h
 show (3:Int)≠0;decide
theorem Fine.rule:Fine zbh:=(Fine.take 97).and fun x=>by
 intro l h;show zje (if _ then _ else _);split
 ·exact ((Fine.take 97).and fun _=>(Fine.take 48).and fun _=>(Fine.many 62 Fine.pat 6).and fun _=>(Fine.take 62).and fun _=>(Fine.manyS 41 Fine.act 8 _).and fun _=>(Fine.take 41).and fun _=>Fine.ret _) l h
 show (3:Int)≠0;decide
theorem Fine.rules:Fine zcd:=Fine.many 0 Fine.rule 16
def prR(src:Bs):Px (List Ru):=if 20000<src.length then .error (4,0) else zcd (zbd src)
theorem znX{src:Bs}{f:Flt}(h:prR src=.error f):f.1≠0:=by
 unfold prR at h;split at h
 ·injection h with h;rw[<- h];show (4:Int)≠0;decide
 have:=Fine.rules _ (zeC src);rw[h]at this;exact this
def wds(l:Bs)(k:Nat):List Wd:=za5 (l.length+1) l k
theorem zkr(s:Bs):zbd s=wds s 0:=by
 unfold zbd zaQ wds;simp
theorem zqr(k:Nat):wds [] k=[⟨0,k,[],0⟩]:=rfl
theorem zjT{b:UInt8}(r:Bs)(k:Nat)(h:zcJ b=true):wds (b :: r) k=wds r (k+1):=by
 unfold wds;rw[List.length_cons,za5,if_pos h]
theorem zo8(r:Bs)(k:Nat):wds (40 :: r) k=⟨1,k,[],0⟩ :: wds r (k+1):=by
 unfold wds;rw[List.length_cons,za5,if_neg (by decide),if_neg (by decide),if_pos rfl]
theorem znE(r:Bs)(k:Nat):wds (41 :: r) k=⟨2,k,[],0⟩ :: wds r (k+1):=by
 unfold wds;rw[List.length_cons,za5,if_neg (by decide),if_neg (by decide),if_neg (by decide),if_pos rfl]
def Brk(r:Bs):Prop:=∀ b s,r=b :: s->za2 b=false
theorem Brk.cons{b:UInt8}(r:Bs)(h:za2 b=false):Brk (b :: r):=fun c s e=>by
 injection e with e _;rw[<- e];exact h
theorem Brk.nil:Brk []:=fun b s e=>by cases e
theorem zhZ:∀ {t r:Bs},t.all za2=true->Brk r->(t ++ r).takeWhile za2=t
 | [],r,_,hr=>by
  cases r with
  | nil=>rfl
  | cons b s=>simp[hr b s rfl]
 | b :: t,r,h,hr=>by
  rw[List.all_cons,Bool.and_eq_true]at h
  rw[List.cons_append,List.takeWhile_cons,if_pos h.1,zhZ h.2 hr]
theorem zpi{b:UInt8}(h:za2 b=true):zcJ b=false/\b≠59/\b≠40/\b≠41/\¬ (b.toNat<33∨126<b.toNat):=by
 unfold za2 at h;simp only[Bool.and_eq_true,decide_eq_true_eq]at h;obtain ⟨h1,h2,h3,E,G⟩:=h;refine ⟨?_,G,h3,E,by omega⟩;unfold zcJ;have e1:b≠32:=fun e=>by rw[e]at h1;exact absurd h1 (by decide)
 have e2:b≠9:=fun e=>by rw[e]at h1;exact absurd h1 (by decide)
 have e3:b≠10:=fun e=>by rw[e]at h1;exact absurd h1 (by decide)
 have I:b≠13:=fun e=>by rw[e]at h1;exact absurd h1 (by decide)
 simp[e1,e2,e3,I]
theorem zo5{t:Bs}(r:Bs)(k:Nat)(O:t≠[])(hw:t.all za2=true)(hr:Brk r):wds (t ++ r) k=⟨mkind t,k,t,mnum t⟩ :: wds r (k+t.length):=by
 cases t with
 | nil=>exact absurd rfl O
 | cons b s=>
  have hb:za2 b=true:=by
   rw[List.all_cons,Bool.and_eq_true]at hw;exact hw.1
  obtain ⟨e1,e2,e3,U,I⟩:=zpi hb;have E:=zhZ hw hr;have G:zbs za2 (b :: s ++ r)=(b :: s).length:=by unfold zbs;rw[E]
  show za5 ((b :: s ++ r).length+1) (b :: s ++ r) k=_;rw[List.cons_append,List.length_cons,za5,if_neg (by rw[e1];decide),if_neg e2,if_neg e3,if_neg U,if_neg I];rw[<- List.cons_append,E,G];congr 1;rw[List.drop_left];exact zgf _ _ _ _ (by simp;omega) (by omega)
structure Tok (t:Bs) (K:Int) (P:Bs) (n:Int):Prop where
 ne:t≠[]
 w:t.all za2=true
 k:pkind t=K
 p:ptext t=P
 n:mnum t=n
 ok:mkind t≠8
theorem Tok.next{t:Bs}{K:Int}{P:Bs}{n:Int}(h:Tok t K P n)(r:Bs)(k:Nat)(hr:Brk r):∃ x:Wd,zaj (wds (t ++ r) k)=.ok (x,wds r (k+t.length))/\pkW x=K/\ptW x=P/\x.num=n:=by
 obtain ⟨n0,E,G,I⟩:=zcT t;refine ⟨⟨mkind t,k,t,mnum t⟩,?_,?_,?_,h.n⟩
 ·rw[zo5 r k h.ne h.w hr];simp[zaj,badW,I,h.ok,n0]
 ·simp[pkW,n0,E,G,h.k]
 simp[ptW,n0,E,G,h.p]
theorem Tok.take{t:Bs}{K:Int}{P:Bs}{n:Int}(h:Tok t K P n)(r:Bs)(k:Nat)(hr:Brk r):∃ x:Wd,zai K (wds (t ++ r) k)=.ok (x,wds r (k+t.length))/\pkW x=K/\ptW x=P/\x.num=n:=by
 obtain ⟨x,h1,h2,h3,E⟩:=h.next r k hr;refine ⟨x,?_,h2,h3,E⟩;unfold zai;rw[h1];simp only[h2,if_true]
theorem zda(r:Bs)(k:Nat):zaj (wds (40 :: r) k)=.ok (⟨1,k,[],0⟩,wds r (k+1)):=by
 rw[zo8];rfl
theorem zep(r:Bs)(k:Nat):zaj (wds (41 :: r) k)=.ok (⟨2,k,[],0⟩,wds r (k+1)):=by
 rw[znE];rfl
theorem zcq(r:Bs)(k:Nat):zai 40 (wds (40 :: r) k)=.ok (⟨1,k,[],0⟩,wds r (k+1)):=by
 unfold zai;rw[zda];rfl
theorem zc1(r:Bs)(k:Nat):zai 41 (wds (41 :: r) k)=.ok (⟨2,k,[],0⟩,wds r (k+1)):=by
 unfold zai;rw[zep];rfl
theorem zgO{P:UInt8->Bool}(h:((List.range 256).all fun n=>P (UInt8.ofNat n))=true)(b:UInt8):P b=true:=by
 rw[List.all_eq_true]at h;have:=h b.toNat (List.mem_range.2 b.toNat_lt);simpa using this
theorem zlT{b:UInt8}(h:zdW b=true):za2 b=true:=by
 have:=zgO (P:=fun b=>!zdW b || za2 b) (by kernel_rfl) b;simpa[h] using this
theorem zpU{b:UInt8}(h:zj3 b=true):isDg b=false/\b≠45/\b≠63:=by
 have:=zgO (P:=fun b=>!zj3 b || (!isDg b && (decide (b≠45) && decide (b≠63)))) (by kernel_rfl) b;simpa[h] using this
theorem zbu{b:UInt8}{s:Bs}(h:isDg b=false)(E:b≠45):zbj (b :: s)=none:=by
 apply zh6;unfold zbk;rw[if_neg (by simpa using E)];simp[h]
theorem zhK{t:Bs}(h:gSym t=true):∃ b s,t=b :: s/\zj3 b=true/\t.all zdW=true:=by
 unfold gSym at h;simp only[Bool.and_eq_true,decide_eq_true_eq]at h;obtain ⟨⟨⟨h1,_⟩,h3⟩,E⟩:=h
 cases t with
 | nil=>simp at h1
 | cons b s=>exact ⟨b,s,rfl,h3,E⟩
theorem zjb{t:Bs}(h:t.all zdW=true):t.all za2=true:=by
 rw[List.all_eq_true]at h ⊢;exact fun x hx=>zlT (h x hx)
theorem Tok.sym{t:Bs}(h:gSym t=true):Tok t 97 t 0:=by
 obtain ⟨b,s,rfl,h1,h2⟩:=zhK h;obtain ⟨E,G,I⟩:=zpU h1;have hn:=zbu (s:=s) E G;refine ⟨by simp,zjb h2,?_,?_,?_,?_⟩
 ·simp[pkind,hn,h]
 ·simp[ptext,hn,h]
 ·simp[mnum,hn]
 have hv:zbW (b :: s)=false:=by simp[zbW,I]
 simp[mkind,hn,h,hv]
theorem Tok.var{s:Bs}(h:gSym s=true):Tok (63 :: s) 63 s 0:=by
 obtain ⟨b,u,rfl,h1,h2⟩:=zhK h;have hn:zbj (63 :: b :: u)=none:=zbu (by decide) (by decide);have hg:gSym (63 :: b :: u)=false:=by
  have:zj3 63=false:=by decide
  simp[gSym,this]
 have hv:zbW (63 :: b :: u)=true:=by simp[zbW,h]
 refine ⟨by simp,?_,?_,?_,?_,?_⟩
 ·rw[List.all_cons,zjb h2];decide
 ·simp[pkind,hn,hg,hv]
 ·simp[ptext,hn,hg,hv]
 ·simp[mnum,hn]
 simp[mkind,hn,hv]
theorem znz{b:UInt8}(h:isDg b=true):za2 b=true:=by
 have:=zgO (P:=fun b=>!isDg b || za2 b) (by kernel_rfl) b;simpa[h] using this
theorem zlG(n:Int):Lib.itoa n≠[]/\(Lib.itoa n).all za2=true:=by
 have hd:∀ u:Nat,(Lib.decDigits u).all za2=true:=fun u=>by
  have:=zdr u;rw[List.all_eq_true]at this ⊢;exact fun x hx=>znz (this x hx)
 by_cases h:n<0
 ·rw[zgR h];refine ⟨by simp,?_⟩;rw[List.all_cons,hd];decide
 rw[ze6 h];exact ⟨zft _,hd _⟩
theorem Tok.num{n:Int}(h:zbr n):Tok (Lib.itoa n) 48 [] n:=by
 have hn:=zeB h;obtain ⟨h1,h2⟩:=zlG n;refine ⟨h1,h2,?_,?_,?_,?_⟩
 ·simp[pkind,hn]
 ·simp[ptext,hn]
 ·simp[mnum,hn]
 simp[mkind,hn]
theorem zbT{t:Bs}{K:Int}{P:Bs}(E:t≠[])(hw:t.all za2=true)(hn:zbj t=none)(hg:gSym t=false)(hv:zbW t=false)(hk:(if zaH t≠0 then 61 else if t∈arTx then 43 else if t=[95] then 95 else if t=[61,62] then 62 else -1:Int)=K)(hp:(if zaH t≠0 then t else if t∈arTx then t else [])=P)(ho:za7 t=true):Tok t K P 0:=by
 refine ⟨E,hw,?_,?_,by simp[mnum,hn],?_⟩
 ·simp only[pkind,hn,hg,hv];simpa using hk
 ·simp only[ptext,hn,hg,hv];simpa using hp
 simp[mkind,hn,hg,hv,ho]
theorem Tok.test{i:Nat}(h:i<6):Tok (opTx.getD i []) 61 (opTx.getD i []) 0/\zaH (opTx.getD i [])=i+1:=by
 rcases i with _ | _ | _ | _ | _ | _ | i
 ·exact ⟨zbT (by decide) (by decide) (zbu (by decide) (by decide)) (by decide) (by decide) (by decide) (by decide) (by decide),by decide⟩
 ·exact ⟨zbT (by decide) (by decide) (zbu (by decide) (by decide)) (by decide) (by decide) (by decide) (by decide) (by decide),by decide⟩
 ·exact ⟨zbT (by decide) (by decide) (zbu (by decide) (by decide)) (by decide) (by decide) (by decide) (by decide) (by decide),by decide⟩
 ·exact ⟨zbT (by decide) (by decide) (zbu (by decide) (by decide)) (by decide) (by decide) (by decide) (by decide) (by decide),by decide⟩
 ·exact ⟨zbT (by decide) (by decide) (zbu (by decide) (by decide)) (by decide) (by decide) (by decide) (by decide) (by decide),by decide⟩
 ·exact ⟨zbT (by decide) (by decide) (zbu (by decide) (by decide)) (by decide) (by decide) (by decide) (by decide) (by decide),by decide⟩
 omega
theorem Tok.und:Tok [95] 95 [] 0:=zbT (by decide) (by decide) (zbu (by decide) (by decide)) (by decide) (by decide) (by decide) (by decide) (by decide)
theorem Tok.to:Tok [61,62] 62 [] 0:=zbT (by decide) (by decide) (zbu (by decide) (by decide)) (by decide) (by decide) (by decide) (by decide) (by decide)
theorem Tok.ar{op:Int}(h:isAr op=true):Tok [UInt8.ofNat op.toNat] 43 [UInt8.ofNat op.toNat] 0/\(((UInt8.ofNat op.toNat).toNat:Int))=op:=by
 have E:op=43∨op=45∨op=42∨op=47∨op=37:=by
  unfold isAr at h;simpa using h
 rcases E with rfl | rfl | rfl | rfl | rfl
 ·exact ⟨zbT (by decide) (by decide) (zbu (by decide) (by decide)) (by decide) (by decide) (by decide) (by decide) (by decide),by decide⟩
 ·exact ⟨zbT (by decide) (by decide) (zdt (by decide) (.inl (by decide))) (by decide) (by decide) (by decide) (by decide) (by decide),by decide⟩
 rotate_left
 rotate_left
 rotate_left
 all_goals
  exact ⟨zbT (by decide) (by decide) (zbu (by decide) (by decide)) (by decide) (by decide) (by decide) (by decide) (by decide),by decide⟩
theorem Tok.val{v:V}(h:gVal v=true)(hn:zbr v.num):(Tok (txV v) 48 [] v.num/\v=wVal 48 v.num [])∨(Tok (txV v) 97 (bsOf v.sym) 0/\v=wVal 97 0 (bsOf v.sym)):=by
 obtain ⟨k,n,s⟩:=v;have hv:gVal (k,n,s)=((k==0 && s.toList.isEmpty) || (k==1 && (n==0 && gSym s.data.toList))):=rfl;rw[hv]at h;by_cases hk:k=1
 ·subst hk;simp at h;obtain ⟨h1,h2⟩:=h;subst h1;refine .inr ⟨?_,?_⟩
  ·exact Tok.sym h2
  show ((1:Int),(0:Int),s)=(1,0,mkS (bsOf s));rw[zb2]
 have E:k=0/\s.toList.isEmpty=true:=by
  simp[hk]at h;exact ⟨h.1,by simpa using h.2⟩
 obtain ⟨rfl,hs⟩:=E;have he:s=mkS []:=by
  have:bsOf s=[]:=by
   have e:s.data.toList=s.toList:=(ByteArray.toList_eq _).symm;show s.data.toList=[];rw[e];simpa using hs
  rw[<- zb2 s,this]
 subst he;exact .inl ⟨Tok.num hn,rfl⟩
def wtW(x:Wd):Nat:=if x.kind=0 then 0 else if x.text=[] then 4 else x.text.length+3
def wtL(l:List Wd):Nat:=(l.map wtW).sum
def GdW(l:List Wd):Prop:=∀ x∈l,WdOk x
theorem zfn(x:Wd)(r:List Wd):wtL (x :: r)=wtW x+wtL r:=by simp[wtL]
theorem zan{α β:Type}{r:Px α}{f:α->List Wd->Px β}{y:β}{l:List Wd}(h:andP r f=.ok (y,l)):∃ x l1,r=.ok (x,l1)/\f x l1=.ok (y,l):=by
 cases r with
 | error e=>cases h
 | ok q=>exact ⟨q.1,q.2,rfl,h⟩
theorem zby{l r:List Wd}{x:Wd}(h:zaj l=.ok (x,r))(hg:GdW l):wtW x+wtL r<=wtL l/\GdW r/\WdOk x/\x.kind≠7/\x.kind≠8:=by
 cases l with
 | nil=>cases h
 | cons y t=>
  cases hb:badW y with
  | some f=>
   simp only[zaj,hb]at h
   cases h
  | none=>
   simp only[zaj,hb]at h;injection h with h;injection h with h1 h2;subst h1;have hk:y.kind≠7/\y.kind≠8:=by
    unfold badW at hb;constructor <;> intro e <;> rw[e]at hb <;> simp at hb
   by_cases E:y.kind=0
   ·rw[if_pos E]at h2;subst h2;exact ⟨by unfold wtW;rw[if_pos E];omega,hg,hg y (by simp),hk⟩
   rw[if_neg E]at h2;subst h2;exact ⟨by rw[zfn];omega,fun z hz=>hg z (by simp[hz]),hg y (by simp),hk⟩
theorem zaN{k:Int}{l r:List Wd}{x:Wd}(h:zai k l=.ok (x,r))(hg:GdW l):wtW x+wtL r<=wtL l/\GdW r/\WdOk x/\pkW x=k:=by
 unfold zai at h
 cases hn:zaj l with
 | error e=>rw[hn]at h;cases h
 | ok q=>
  obtain ⟨y,t⟩:=q;rw[hn]at h;by_cases hk:pkW y=k
  ·simp only[if_pos hk]at h;injection h with h;injection h with h1 h2;subst h1;subst h2;obtain ⟨a,b,c,_⟩:=zby hn hg;exact ⟨a,b,c,hk⟩
  simp only[if_neg hk]at h
  cases h
theorem zhv{x:Wd}(hx:WdOk x)(h:pkW x=40∨pkW x=41):wtW x=4:=by
 unfold pkW at h;rcases hx with ⟨h1,_,h3⟩ | ⟨h1,_⟩
 ·have hk:x.kind≠0:=fun e=>by rw[if_pos e]at h;omega
  unfold wtW;rw[if_neg hk,if_pos h1]
 have hm:=zcT x.text;rw[<- h1]at hm;rw[if_neg hm.1,if_neg hm.2.1,if_neg hm.2.2.1]at h;exfalso;unfold pkind at h
 repeat' split at h
 all_goals omega
theorem zdM{x:Wd}(hx:WdOk x)(h:pkW x≠0/\pkW x≠40/\pkW x≠41)(I:pkW x ≠ -1):pkW x=pkind x.text/\ptW x=ptext x.text/\x.num=mnum x.text/\wtW x=x.text.length+3:=by
 have hk:x.kind≠0/\x.kind≠1/\x.kind≠2:=by
  unfold pkW at h;refine ⟨fun e=>?_,fun e=>?_,fun e=>?_⟩
  ·rw[if_pos e]at h;omega
  ·rw[if_neg (by omega),if_pos e]at h;omega
  rw[if_neg (by omega),if_neg (by omega),if_pos e]at h;omega
 have E:pkW x=pkind x.text:=by unfold pkW;rw[if_neg hk.1,if_neg hk.2.1,if_neg hk.2.2]
 have G:x.text≠[]:=fun e=>by
  rw[E,e]at I;exact I (by decide +kernel)
 rcases hx with ⟨h1,_⟩ | ⟨_,h2⟩
 ·exact absurd h1 G
 refine ⟨E,?_,h2,?_⟩
 ·unfold ptW;rw[if_neg hk.1,if_neg hk.2.1,if_neg hk.2.2]
 unfold wtW;rw[if_neg hk.1,if_neg G]
theorem zoo{x:Wd}(hx:WdOk x)(h:pkW x=48):(Lib.itoa x.num).length+3=wtW x:=by
 obtain ⟨h1,_,h3,G⟩:=zdM hx (by omega) (by omega);rw[h1]at h;have hs:(zbj x.text).isSome=true:=by
  apply Classical.byContradiction;intro hn;unfold pkind at h;rw[if_neg hn]at h
  repeat' split at h
  all_goals omega
 rw[G,h3];unfold mnum;obtain ⟨n,hn⟩:=Option.isSome_iff_exists.1 hs;rw[hn];unfold zbj at hn;split at hn
 ·rename_i E;simp only[Bool.and_eq_true,decide_eq_true_eq]at E;injection hn with hn;subst hn;rw[Option.getD_some,E.2.2]
 cases hn
theorem zif{x:Wd}(hx:WdOk x)(h:pkW x=97):(ptW x).length+3=wtW x:=by
 obtain ⟨h1,h2,_,E⟩:=zdM hx (by omega) (by omega);rw[h1]at h;rw[E,h2];unfold pkind at h;unfold ptext;split
 ·rename_i hn;rw[if_pos hn]at h;omega
 rename_i hn;rw[if_neg hn]at h;split
 ·rfl
 rename_i hs;rw[if_neg hs]at h
 repeat' split at h
 all_goals omega
theorem zlA{x:Wd}(hx:WdOk x)(h:pkW x=63):(ptW x).length+4<=wtW x+1/\(ptW x).length+3<=wtW x:=by
 obtain ⟨h1,h2,_,E⟩:=zdM hx (by omega) (by omega);rw[E,h2];have:(ptext x.text).length<=x.text.length:=by
  unfold ptext
  repeat' split
  all_goals simp
 omega
theorem zmN{t:Bs}(h:zaH t≠0):opTx.getD (zaH t - 1) []=t:=by
 unfold zaH at h ⊢;by_cases h1:t=[61]
 ·subst h1;rfl
 by_cases h2:t=[33,61]
 ·subst h2;rfl
 by_cases h3:t=[60]
 ·subst h3;rfl
 by_cases E:t=[62]
 ·subst E;rfl
 by_cases I:t=[60,61]
 ·subst I;rfl
 by_cases G:t=[62,61]
 ·subst G;rfl
 rw[if_neg h1,if_neg h2,if_neg h3,if_neg E,if_neg I,if_neg G]at h;exact absurd rfl h
theorem zqx{x:Wd}(hx:WdOk x)(h:pkW x=61):(opTx.getD (zaH (ptW x) - 1) []).length+3<=wtW x:=by
 obtain ⟨h1,h2,_,E⟩:=zdM hx (by omega) (by omega);rw[h1]at h;have hp:(ptW x).length<=x.text.length:=by
  rw[h2];unfold ptext
  repeat' split
  all_goals simp
 by_cases hz:zaH (ptW x)=0
 ·have ht:ptW x=x.text/\zaH x.text≠0:=by
   rw[h2];unfold pkind at h;unfold ptext;split
   ·rename_i hn;rw[if_pos hn]at h;omega
   rename_i hn;rw[if_neg hn]at h;split
   ·rename_i hs;rw[if_pos hs]at h;omega
   rename_i hs;rw[if_neg hs]at h;split
   ·rename_i hv;rw[if_pos hv]at h;omega
   rename_i hv;rw[if_neg hv]at h;split
   ·rename_i ht;exact ⟨rfl,ht⟩
   rename_i ht;rw[if_neg ht]at h
   repeat' split at h
   all_goals omega
  rw[ht.1]at hz;exact absurd hz ht.2
 rw[zmN hz,E];omega
theorem zlc{x:Wd}(hx:WdOk x)(h:pkW x=48∨pkW x=97):(txV (wVal (pkW x) x.num (ptW x))).length+3=wtW x:=by
 unfold wVal;rcases h with h | h
 ·rw[if_pos h,<- zoo hx h];rfl
 rw[if_neg (by omega),<- zif hx h];show (bsOf (mkS (ptW x))).length+3=_;rw[zaF,zad]
theorem zlf{x:Wd}(hx:WdOk x)(h:pkW x≠0/\pkW x≠40/\pkW x≠41)(E:pkW x ≠ -1):3<=wtW x:=by
 have:=(zdM hx h E).2.2.2;omega
theorem zsy:(txV zVr).length=1:=by decide +kernel
theorem zsi{x:Wd}(hx:WdOk x)(h:pkW x=63)(k op:Int):(txO ⟨k,op,mkS (ptW x),zVr⟩).length+2<=wtW x:=by
 have:=zlA hx h;unfold txO;split
 ·show (txV zVr).length+2<=_;rw[zsy];omega
 show (63 :: bsOf (mkS (ptW x))).length+2<=_;rw[List.length_cons,zaF,zad];omega
theorem zqm(v:Bs):(txT ⟨2,0,mkS v,zVr⟩).length=v.length+1:=by
 show (63 :: bsOf (mkS v)).length=_;rw[List.length_cons,zaF,zad]
theorem zis(op:Nat)(v:ByteArray)(u:V):(txT ⟨3,(op:Int),v,u⟩).length=(opTx.getD (op - 1) []).length+(txO ⟨3,(op:Int),v,u⟩).length+3:=by
 show (40 :: (opTx.getD (((op:Int)).toNat - 1) [] ++ 32 :: (txO ⟨3,(op:Int),v,u⟩ ++ [41]))).length=_;rw[Int.toNat_natCast];simp;omega
theorem zqK(u:V)(op:Int):txO ⟨3,op,mkS [],u⟩=txV u:=by
 unfold txO;rw[if_pos (show isE (mkS [])=true by decide +kernel)]
theorem zpQ{l r:List Wd}{t:Tm}(h:zbM l=.ok (t,r))(hg:GdW l):(txT t).length+1+wtL r<=wtL l/\GdW r:=by
 unfold zbM at h;obtain ⟨o,l1,ho,h⟩:=zan h;obtain ⟨x,l2,hx,h⟩:=zan h;obtain ⟨Z,g1,X,G⟩:=zaN ho hg;obtain ⟨w2,g2,x1,_⟩:=zby hx g1;have O:=zqx X G;split at h
 ·rename_i hk;obtain ⟨b,l3,hb,h⟩:=zan h;obtain ⟨w3,E,U,I⟩:=zaN hb g2;have hv:=zlc x1 hk;injection h with h;injection h with h1 h2;subst h1;subst h2;rw[zis,zqK];exact ⟨by omega,E⟩
 split at h
 ·rename_i hk;obtain ⟨b,l3,hb,h⟩:=zan h;obtain ⟨w3,E,U,I⟩:=zaN hb g2;have hv:=zsi x1 hk 3 (zaH (ptW o):Int);injection h with h;injection h with h1 h2;subst h1;subst h2;rw[zis];exact ⟨by omega,E⟩
 cases h
theorem zer{l r:List Wd}{t:Tm}(h:zaX l=.ok (t,r))(hg:GdW l):(txT t).length+1+wtL r<=wtL l/\GdW r:=by
 unfold zaX at h;obtain ⟨x,l1,hx,h⟩:=zan h;obtain ⟨E,g1,x1,_⟩:=zby hx hg;split at h
 ·rename_i hk;have:=zlf x1 (by omega) (by omega);injection h with h;injection h with h1 h2;subst h1;subst h2;exact ⟨by show 1+1+_<=_;omega,g1⟩
 split at h
 ·rename_i hk;have hv:=zlc x1 hk;injection h with h;injection h with h1 h2;subst h1;subst h2;exact ⟨by show (txV (wVal (pkW x) x.num (ptW x))).length+1+_<=_;omega,g1⟩
 split at h
 ·rename_i hk;have hv:=zlA x1 hk;injection h with h;injection h with h1 h2;subst h1;subst h2;rw[zqm];exact ⟨by omega,g1⟩
 split at h
 ·rename_i hk;obtain ⟨a,b⟩:=zpQ h g1;have:=zhv x1 (.inl hk);exact ⟨by omega,b⟩
 cases h
theorem zkW{α:Type}{rd:List Wd->Px α}{c:α->Nat}(E:∀ l v r,rd l=.ok (v,r)->GdW l->c v+wtL r<=wtL l/\GdW r):∀ (n:Nat) {l r:List Wd}{vs:List α},zbi rd n l=.ok (vs,r)->GdW l->(vs.map c).sum+4+wtL r<=wtL l/\GdW r:=by
 intro n
 induction n with
 | zero=>
  intro l r vs h hg;unfold zbi at h
  cases hn:zaj l with
  | error e=>rw[hn]at h;cases h
  | ok q=>
   obtain ⟨x,t⟩:=q;rw[hn]at h;obtain ⟨G,g1,x1,_⟩:=zby hn hg;simp only at h;split at h
   ·rename_i hk;injection h with h;injection h with h1 h2;subst h1;subst h2;have:=zhv x1 (.inr hk);exact ⟨by simp;omega,g1⟩
   ·split at h <;> cases h
 | succ n I=>
  intro l r vs h hg;unfold zbi at h
  cases hn:zaj l with
  | error e=>rw[hn]at h;cases h
  | ok q=>
   obtain ⟨x,t⟩:=q;rw[hn]at h;obtain ⟨G,g1,x1,_⟩:=zby hn hg;simp only at h;split at h
   ·rename_i hk;injection h with h;injection h with h1 h2;subst h1;subst h2;have:=zhv x1 (.inr hk);exact ⟨by simp;omega,g1⟩
   cases hr:rd l with
   | error e=>rw[hr]at h;cases h
   | ok q=>
    obtain ⟨v,l1⟩:=q;rw[hr]at h;simp only at h;obtain ⟨a,b⟩:=E _ _ _ hr hg
    cases hp:zbi rd n l1 with
    | error e=>rw[hp]at h;cases h
    | ok q=>
     obtain ⟨U,l2⟩:=q;rw[hp]at h;simp only at h;injection h with h;injection h with h1 h2;subst h1;subst h2;obtain ⟨a2,O⟩:=I hp b;exact ⟨by simp;omega,O⟩
theorem zk1{α:Type}{k:Int}{rd:List Wd->Px α}{c:α->Nat}(E:∀ l v r,rd l=.ok (v,r)->GdW l->c v+wtL r<=wtL l+4/\GdW r):∀ (n:Nat) {l r:List Wd}{vs:List α},za1 k rd n l=.ok (vs,r)->GdW l->(vs.map c).sum+wtL r<=wtL l/\GdW r:=by
 intro n
 induction n with
 | zero=>
  intro l r vs h hg;unfold za1 at h
  cases hn:zaj l with
  | error e=>rw[hn]at h;cases h
  | ok q=>
   obtain ⟨x,t⟩:=q;rw[hn]at h;simp only at h;split at h
   ·injection h with h;injection h with h1 h2;subst h1;subst h2;exact ⟨by simp,hg⟩
   ·split at h <;> cases h
 | succ n I=>
  intro l r vs h hg;unfold za1 at h
  cases hn:zaj l with
  | error e=>rw[hn]at h;cases h
  | ok q=>
   obtain ⟨x,t⟩:=q;rw[hn]at h;simp only at h;split at h
   ·injection h with h;injection h with h1 h2;subst h1;subst h2;exact ⟨by simp,hg⟩
   cases ht:zai 40 l with
   | error e=>rw[ht]at h;cases h
   | ok q=>
    obtain ⟨y,l1⟩:=q;rw[ht]at h;simp only at h;obtain ⟨Z,g1,U,G⟩:=zaN ht hg;have hy:=zhv U (.inl G)
    cases hr:rd l1 with
    | error e=>rw[hr]at h;cases h
    | ok q=>
     obtain ⟨v,l2⟩:=q;rw[hr]at h;simp only at h;obtain ⟨a,b⟩:=E _ _ _ hr g1
     cases hp:za1 k rd n l2 with
     | error e=>rw[hp]at h;cases h
     | ok q=>
      obtain ⟨X,l3⟩:=q;rw[hp]at h;simp only at h;injection h with h;injection h with h1 h2;subst h1;subst h2;obtain ⟨a2,O⟩:=I hp b;exact ⟨by simp;omega,O⟩
theorem zi0(l:List Tm):(txTs l).length=(l.map fun t=>(txT t).length+1).sum:=by
 unfold txTs;rw[List.length_flatMap];simp
theorem zhg{l r:List Wd}{t:Bs}(h:za3 l=.ok (t,r))(hg:GdW l):t.length+3+wtL r<=wtL l/\GdW r:=by
 unfold za3 at h
 cases ht:zai 97 l with
 | error e=>rw[ht]at h;cases h
 | ok q=>
  obtain ⟨x,l1⟩:=q;rw[ht]at h;simp only at h;obtain ⟨G,g1,x1,E⟩:=zaN ht hg;have:=zif x1 E;split at h
  ·cases h
  injection h with h;injection h with h1 h2;subst h1;subst h2;exact ⟨by omega,g1⟩
theorem zn6(neg:Bool)(c:Bs)(ts:List Tm):(txP ⟨neg,mkS c,ts⟩).length<=c.length+(txTs ts).length+6:=by
 unfold txP;rw[List.length_cons,List.length_append,List.length_append,List.length_append,zaF,zad]
 cases neg <;> simp[notX] <;> omega
theorem zkw{l r:List Wd}{p:Pt}(h:pPat l=.ok (p,r))(hg:GdW l):(txP p).length+3+wtL r<=wtL l+4/\GdW r:=by
 unfold pPat at h;obtain ⟨x,l1,hx,h⟩:=zan h;obtain ⟨U,g1,x1,I⟩:=zaN hx hg;have G:=zif x1 I;split at h
 ·rename_i hn;obtain ⟨c,l2,O,h⟩:=zan h;obtain ⟨ts,l3,ht,h⟩:=zan h;obtain ⟨X,g2⟩:=zhg O g1;obtain ⟨w3,E⟩:=zkW (c:=fun t=>(txT t).length+1) (fun _ _ _ h hg=>zer h hg) 6 ht g2;injection h with h;injection h with h1 h2;subst h1;subst h2;have:=zn6 true c ts;rw[zi0]at this;exact ⟨by omega,E⟩
 obtain ⟨ts,l3,ht,h⟩:=zan h;obtain ⟨w3,E⟩:=zkW (c:=fun t=>(txT t).length+1) (fun _ _ _ h hg=>zer h hg) 6 ht g1;injection h with h;injection h with h1 h2;subst h1;subst h2;have:=zn6 false (ptW x) ts;rw[zi0]at this;exact ⟨by omega,E⟩
end Go.Proofs.YtjjjagepnnbebaaGreatDoor
namespace Go.Proofs.YtjjjagepnnbebaaGreatDoor
open Go.RowKit
attribute [local go_sem ↓] Go.wp_at_zero Go.wp_at_succ
theorem zj0(w:World):Calls Tryz.prog 103 #[] w fun e w'=>e=.returned (.slice (some ⟨w.heap.size,0,none⟩) 6 6)/\w'=w.alloc (.cells #[.string ⟨#[61]⟩,.string ⟨#[33,61]⟩,.string ⟨#[60]⟩,.string ⟨#[62]⟩,.string ⟨#[60,61]⟩,.string ⟨#[62,61]⟩] 9):=by
 go_enter Tryz.func103,Tryz.ntmps103;go_wp2;go_ret;exact ⟨rfl,rfl⟩
theorem zqj(w:World):Calls Tryz.prog 104 #[] w fun e w'=>e=.returned (.slice (some ⟨w.heap.size,0,none⟩) 5 5)/\w'=w.alloc (.cells #[.string ⟨#[43]⟩,.string ⟨#[45]⟩,.string ⟨#[42]⟩,.string ⟨#[47]⟩,.string ⟨#[37]⟩] 9):=by
 go_enter Tryz.func104,Tryz.ntmps104;go_wp2;go_ret;exact ⟨rfl,rfl⟩
theorem zlj(w:World):TxAt (w.alloc (.cells #[.string ⟨#[61]⟩,.string ⟨#[33,61]⟩,.string ⟨#[60]⟩,.string ⟨#[62]⟩,.string ⟨#[60,61]⟩,.string ⟨#[62,61]⟩] 9)) w.heap.size opTx:=fun j t ht=>by
 have hb:=heap_alloc_new w (.cells #[.string ⟨#[61]⟩,.string ⟨#[33,61]⟩,.string ⟨#[60]⟩,.string ⟨#[62]⟩,.string ⟨#[60,61]⟩,.string ⟨#[62,61]⟩] 9);refine zae (L:=[_,_,_,_,_,_]) hb ?_
 match j,ht with
 | 0,ht=>injection ht with ht;subst ht;rfl
 | 1,ht=>injection ht with ht;subst ht;rfl
 | 2,ht=>injection ht with ht;subst ht;rfl
 | 3,ht=>injection ht with ht;subst ht;rfl
 | 4,ht=>injection ht with ht;subst ht;rfl
 | 5,ht=>injection ht with ht;subst ht;rfl
 | j+6,ht=>cases ht
theorem zpk(w:World):TxAt (w.alloc (.cells #[.string ⟨#[43]⟩,.string ⟨#[45]⟩,.string ⟨#[42]⟩,.string ⟨#[47]⟩,.string ⟨#[37]⟩] 9)) w.heap.size arTx:=fun j t ht=>by
 have hb:=heap_alloc_new w (.cells #[.string ⟨#[43]⟩,.string ⟨#[45]⟩,.string ⟨#[42]⟩,.string ⟨#[47]⟩,.string ⟨#[37]⟩] 9);refine zae (L:=[_,_,_,_,_]) hb ?_
 match j,ht with
 | 0,ht=>injection ht with ht;subst ht;rfl
 | 1,ht=>injection ht with ht;subst ht;rfl
 | 2,ht=>injection ht with ht;subst ht;rfl
 | 3,ht=>injection ht with ht;subst ht;rfl
 | 4,ht=>injection ht with ht;subst ht;rfl
 | j+5,ht=>cases ht
theorem rel63:∀ x,WdOk x->(x.kind=4 ↔ pkW x=63):=fun _ h=>(zdU h).2.2.2.1
theorem zeS(t:Bs):zaH t≠0 ↔ t∈opTx:=by
 constructor
 ·intro h;unfold zaH at h
  repeat' split at h
  all_goals first | (subst_vars;decide) | exact absurd rfl h
 intro h;simp only[opTx,List.mem_cons,List.not_mem_nil,or_false]at h;rcases h with rfl | rfl | rfl | rfl | rfl | rfl <;> decide
theorem zrt{t:Bs}(h:t∈arTx):zaH t=0:=by
 simp only[arTx,List.mem_cons,List.not_mem_nil,or_false]at h;rcases h with rfl | rfl | rfl | rfl | rfl <;> rfl
theorem zcU{x:Wd}(h:WdOk x)(hk:x.kind=6):pkW x=(if x.text∈opTx then 61 else if x.text∈arTx then 43 else if x.text=[95] then 95 else if x.text=[61,62] then 62 else -1)/\ptW x=(if x.text∈opTx then x.text else if x.text∈arTx then x.text else []):=by
 rcases h with ⟨_,_,h | h | h | h⟩ | ⟨h,_⟩
 ·omega
 ·omega
 ·omega
 ·omega
 have hm:=hk;rw[h]at hm;unfold mkind at hm;split at hm
 ·exact absurd hm (by decide)
 split at hm
 ·exact absurd hm (by decide)
 split at hm
 ·exact absurd hm (by decide)
 rename_i h1 h2 h3;have E:pkW x=pkind x.text:=by unfold pkW;rw[if_neg (by omega),if_neg (by omega),if_neg (by omega)]
 have G:ptW x=ptext x.text:=by unfold ptW;rw[if_neg (by omega),if_neg (by omega),if_neg (by omega)]
 rw[E,G];unfold pkind ptext;rw[if_neg h1,if_neg h3,if_neg h2,if_neg h1,if_neg h3,if_neg h2];by_cases ht:x.text∈opTx
 ·rw[if_pos ((zeS _).2 ht),if_pos ((zeS _).2 ht),if_pos ht,if_pos ht];exact ⟨rfl,rfl⟩
 rw[if_neg (fun e=>ht ((zeS _).1 e)),if_neg (fun e=>ht ((zeS _).1 e)),if_neg ht,if_neg ht];exact ⟨rfl,rfl⟩
theorem zeq{x:Wd}(h:WdOk x)(hp:pkW x=61∨pkW x=43∨pkW x=95∨pkW x=62):x.kind=6:=by
 rcases h with ⟨ht,_,hk | hk | hk | hk⟩ | ⟨hk,_⟩
 ·simp[pkW,hk]at hp
 ·simp[pkW,hk]at hp
 ·simp[pkW,hk]at hp
 ·have:pkW x = -1:=by simp[pkW,hk,ht,zjQ]
  omega
 obtain ⟨m0,X,U,_⟩:=zcT x.text;have Z:pkW x=pkind x.text:=by
  unfold pkW;rw[hk,if_neg m0,if_neg X,if_neg U]
 rw[Z]at hp;rw[hk];unfold pkind at hp;unfold mkind;by_cases h1:(zbj x.text).isSome=true
 ·rw[if_pos h1]at hp;omega
 by_cases h2:gSym x.text=true
 ·rw[if_neg h1,if_pos h2]at hp;omega
 by_cases h3:zbW x.text=true
 ·rw[if_neg h1,if_neg h2,if_pos h3]at hp;omega
 rw[if_neg h1,if_neg h2,if_neg h3]at hp;rw[if_neg h1,if_neg h3,if_neg h2,if_pos];unfold za7;by_cases E:zaH x.text≠0
 ·simp[(zeS _).1 E]
 rw[if_neg E]at hp;by_cases O:x.text∈arTx
 ·simp[O]
 rw[if_neg O]at hp;by_cases I:x.text=[95]
 ·simp[I]
 rw[if_neg I]at hp;by_cases G:x.text=[61,62]
 ·simp[G]
 rw[if_neg G]at hp;omega
theorem zk2{l:List Wd}(h:zdT l):oneM 6 opTx l=andP (zai 61 l) fun o l1=>.ok (ptW o,l1):=by
 unfold oneM zai
 cases hr:zaj l with
 | error f=>rfl
 | ok q=>
  obtain ⟨x,r⟩:=q;have hx:WdOk x:=h.2 x (zc4 hr);simp only;by_cases hp:pkW x=61
  ·have hk:=zeq hx (.inl hp);obtain ⟨e1,e2⟩:=zcU hx hk;by_cases hi:x.text∈opTx
   ·rw[if_pos ⟨hk,hi⟩,if_pos hp,zak,e2,if_pos hi]
   rw[if_neg hi]at e1;rw[e1]at hp
   repeat' split at hp
   all_goals exact absurd hp (by decide)
  rw[if_neg hp,if_neg]
  ·rfl
  rintro ⟨hk,hi⟩;have:=(zcU hx hk).1;rw[if_pos hi]at this;exact hp this
theorem zrP{l:List Wd}(h:zdT l):oneM 6 arTx l=andP (zai 43 l) fun o l1=>.ok (ptW o,l1):=by
 unfold oneM zai
 cases hr:zaj l with
 | error f=>rfl
 | ok q=>
  obtain ⟨x,r⟩:=q;have hx:WdOk x:=h.2 x (zc4 hr);simp only;have E:x.text∈arTx->x.text ∉ opTx:=fun hi ho=>(zeS _).2 ho (zrt hi);by_cases hp:pkW x=43
  ·have hk:=zeq hx (.inr (.inl hp));obtain ⟨e1,e2⟩:=zcU hx hk;by_cases hi:x.text∈arTx
   ·rw[if_pos ⟨hk,hi⟩,if_pos hp,zak,e2,if_neg (E hi),if_pos hi]
   rw[hp]at e1;rw[if_neg hi]at e1
   repeat' split at e1
   all_goals exact absurd e1 (by decide)
  rw[if_neg hp,if_neg]
  ·rfl
  rintro ⟨hk,hi⟩;have:=(zcU hx hk).1;rw[if_neg (E hi),if_pos hi]at this;exact hp this
def toT:List Bs:=[[61,62]]
theorem zsb{l:List Wd}(h:zdT l):oneM 6 toT l=andP (zai 62 l) fun _ l1=>.ok ([61,62],l1):=by
 unfold oneM zai
 cases hr:zaj l with
 | error f=>rfl
 | ok q=>
  obtain ⟨x,r⟩:=q;have hx:WdOk x:=h.2 x (zc4 hr);simp only;by_cases hp:pkW x=62
  ·have hk:=zeq hx (.inr (.inr (.inr hp)));obtain ⟨e1,_⟩:=zcU hx hk;rw[hp]at e1;by_cases hi:x.text=[61,62]
   ·rw[if_pos ⟨hk,by rw[hi];decide⟩,if_pos hp,zak,hi]
   rw[if_neg hi]at e1
   repeat' split at e1
   all_goals exact absurd e1 (by decide)
  rw[if_neg hp,if_neg]
  ·rfl
  rintro ⟨hk,hi⟩;have E:x.text=[61,62]:=by simpa[toT] using hi
  have:=(zcU hx hk).1;rw[E,if_neg (by decide),if_neg (by decide),if_neg (by decide),if_pos rfl]at this;exact hp this
theorem znK{x:Wd}(h:WdOk x):(x.kind=6/\x.text=[95]) ↔ pkW x=95:=by
 constructor
 ·rintro ⟨hk,hi⟩;have:=(zcU h hk).1;rw[hi,if_neg (by decide),if_neg (by decide),if_pos rfl]at this;exact this
 intro hp;have hk:=zeq h (.inr (.inr (.inl hp)));refine ⟨hk,?_⟩;have e1:=(zcU h hk).1;rw[hp]at e1;by_cases hi:x.text=[95]
 ·exact hi
 rw[if_neg hi]at e1
 repeat' split at e1
 all_goals exact absurd e1 (by decide)
theorem zkM{x:Wd}(h:WdOk x)(hk:x.kind=4):ptW x=x.text.tail:=by
 rcases h with ⟨_,_,h | h | h | h⟩ | ⟨h,_⟩
 ·omega
 ·omega
 ·omega
 ·omega
 rw[hk]at h;unfold mkind at h;split at h
 ·exact absurd h (by decide)
 split at h
 ·rename_i h1 h2;unfold ptW;rw[if_neg (by omega),if_neg (by omega),if_neg (by omega)];unfold ptext;rw[if_neg h1,if_neg (by rw[zgZ h2];decide),if_pos h2]
 repeat' split at h
 all_goals exact absurd h (by decide)
theorem zjl{k:Nat}(hk:k<6)(t:Bs):opTx.getD k []=t ↔ zaH t=k+1:=by
 constructor
 ·intro h;exact zfR (by omega) (by omega) (by simpa using h)
 intro h;have ht:t∈opTx:=(zeS t).1 (by omega);simp only[opTx,List.mem_cons,List.not_mem_nil,or_false]at ht;rcases ht with rfl | rfl | rfl | rfl | rfl | rfl
 ·obtain rfl:k=0:=by have:zaH [61]=1:=rfl;omega
  rfl
 ·obtain rfl:k=1:=by have:zaH [33,61]=2:=rfl;omega
  rfl
 ·obtain rfl:k=2:=by have:zaH [60]=3:=rfl;omega
  rfl
 ·obtain rfl:k=3:=by have:zaH [62]=4:=rfl;omega
  rfl
 ·obtain rfl:k=4:=by have:zaH [60,61]=5:=rfl;omega
  rfl
 obtain rfl:k=5:=by have:zaH [62,61]=6:=rfl;omega
 rfl
theorem MB.good{w:World}{pb g:Nat}{W:List Wd}{c:Nat}{l:List Wd}{R:List Value}(h:MB w pb g W c (.ok l) R):zdT l:=by
 obtain ⟨k,G,pos,I,hk,hs⟩:=h.st;obtain ⟨_,_,hd⟩:=hs;rw[<- hd];refine ⟨?_,fun x hx=>(h.ok x (List.mem_of_mem_drop hx)).1⟩;obtain ⟨pre,e,rfl,he,hp⟩:=h.ends;have E:k<=pre.length:=by simp at hk;omega
 exact ⟨pre.drop k,e,by rw[List.drop_append_of_le_length E],he,fun x hx=>hp x (List.mem_of_mem_drop hx)⟩
def zqz(s:Ps):Prop:=match s with
 | .error _=>True
 | .ok l=>zdT l
theorem MB.gs{w:World}{pb g:Nat}{W:List Wd}{c:Nat}{s:Ps}{R:List Value}(h:MB w pb g W c s R):zqz s:=by
 cases s with
 | error f=>trivial
 | ok l=>exact h.good
theorem zpf{x:Wd}{r:List Wd}(hx:WdOk x)(h:zaj (x :: r)=.ok (x,r))(hk:x.kind=6)(ht:x.text=[95]):zaX (x :: r)=.ok (⟨0,0,mkS [],zVr⟩,r):=by
 unfold zaX;rw[h,zak,if_pos ((znK hx).1 ⟨hk,ht⟩)]
theorem zoU{x:Wd}{r:List Wd}(hx:WdOk x)(h:zaj (x :: r)=.ok (x,r))(hk:x.kind=4):zaX (x :: r)=.ok (⟨2,0,mkS x.text.tail,zVr⟩,r):=by
 have hp:=(rel63 x hx).1 hk;unfold zaX;rw[h,zak,if_neg (by omega),if_neg (by omega),if_pos hp,zkM hx hk]
theorem zm2{x:Wd}{r:List Wd}(hx:WdOk x)(h:zaj (x :: r)=.ok (x,r))(hk:x.kind=1):zaX (x :: r)=zbM r:=by
 have hp:=(rel40 x hx).1 hk;unfold zaX;rw[h,zak,if_neg (by omega),if_neg (by omega),if_neg (by omega),if_pos hp]
theorem zlo{w:World}{pb g:Nat}{W:List Wd}{c:Nat}{s:Ps}{R:List Value}(U:MB w pb g W c s R)(X:∀ x r,s=.ok (x :: r)->¬ (x.kind=6/\x.text=[95]))(O:zbx s≠4)(h1:zbx s≠1):onS s zaX=andP (onS (zaD s) pVal) fun v l=>.ok (⟨1,0,mkS [],v⟩,l):=by
 cases s with
 | error f=>rfl
 | ok l=>
  obtain ⟨x,r,rfl,hx,_⟩:=U.head
  cases hr:zaj (x :: r) with
  | error f=>
   rw[(zaY hr).2];simp only[onS,zaX,hr];rfl
  | ok p=>
   obtain ⟨y,Z⟩:=p;obtain ⟨rfl,_⟩:=za8 hr;rw[(look_ok hr).1]at O h1;rw[(look_ok hr).2];have G:pkW y≠95:=fun e=>X y r rfl ((znK hx).2 e);have E:pkW y≠63:=fun e=>O ((rel63 y hx).2 e);have I:pkW y≠40:=fun e=>h1 ((rel40 y hx).2 e);simp only[onS,zaX,pVal,hr,zak,if_neg G,if_neg E,if_neg I];split <;> rfl
theorem zir{x:Wd}(h:WdOk x)(hk:x.kind=4):0<x.text.length:=by
 rcases h with ⟨_,_,h | h | h | h⟩ | ⟨h,_⟩
 ·omega
 ·omega
 ·omega
 ·omega
 rw[hk]at h;unfold mkind at h;split at h
 ·exact absurd h (by decide)
 split at h
 ·rename_i h2;unfold zbW at h2
  cases ht:x.text with
  | nil=>rw[ht]at h2;simp at h2
  | cons b r=>simp
 repeat' split at h
 all_goals exact absurd h (by decide)
theorem zgM(t:Bs):(mkS t).size=t.length:=by simp[mkS,ByteArray.size]
theorem ziw{t:Bs}(h:0<t.length):(mkS t).extract 1 (mkS t).size=mkS t.tail:=by
 have h1:=zey (mkS t) (by rw[zgM];exact h);rw[zbX]at h1;rw[<- h1,zb2]
def opK(k:Nat)(t:Bs):Int:=if zaH t<=k then (zaH t:Int) else 0
theorem znf(t:Bs):zaH t<=6:=by
 unfold zaH
 repeat' split
 all_goals omega
theorem zoM(t:Bs):opK 0 t=0:=by unfold opK;split <;> omega
theorem zqi(t:Bs):opK 6 t=(zaH t:Int):=by unfold opK;rw[if_pos (znf t)]
theorem zrc{k:Nat}{t:Bs}(h:zaH t=k+1):opK (k+1) t=(k:Int)+1:=by unfold opK;rw[if_pos (by omega)];omega
theorem zpv{k:Nat}{t:Bs}(h:zaH t≠k+1):opK (k+1) t=opK k t:=by
 unfold opK;by_cases h1:zaH t<=k
 ·rw[if_pos (by omega),if_pos h1]
 rw[if_neg (by omega),if_neg h1]
theorem zls{r l:List Wd}{t:Bs}(hg:zdT r)(h:oneM 6 opTx r=.ok (t,l)):∃ o,zai 61 r=.ok (o,l)/\ptW o=t:=by
 rw[zk2 hg]at h
 cases ht:zai 61 r with
 | error f=>rw[ht]at h;cases h
 | ok q=>
  rw[ht,zak]at h;injection h with h;injection h with h1 h2;exact ⟨q.1,by rw[<- h2],h1⟩
theorem znr{r:List Wd}{f:Flt}(hg:zdT r)(h:oneM 6 opTx r=.error f):zbM r=.error f:=by
 rw[zk2 hg]at h;unfold zbM
 cases ht:zai 61 r with
 | error E=>
  rw[ht]at h;injection h with h;rw[h];rfl
 | ok q=>rw[ht,zak]at h;cases h
theorem zpK{r r2:List Wd}{x:Wd}{t:Bs}(hg:zdT r)(h:oneM 6 opTx r=.ok (t,x :: r2))(hx:WdOk x)(hk:x.kind=4)(hn:zaj (x :: r2)=.ok (x,r2)):(∃ f,zbM r=.error f/\zai 41 r2=.error f)∨∃ y l,zbM r=.ok (⟨3,(zaH t:Int),mkS x.text.tail,zVr⟩,l)/\zai 41 r2=.ok (y,l):=by
 obtain ⟨o,h1,rfl⟩:=zls hg h;have hp:=(rel63 x hx).1 hk;have e:zbM r=andP (zai 41 r2) fun _ l3=>.ok (⟨3,(zaH (ptW o):Int),mkS x.text.tail,zVr⟩,l3):=by
  unfold zbM;rw[h1,zak,hn,zak,if_neg (by omega),if_pos hp,zkM hx hk]
 rw[e]
 cases zai 41 r2 with
 | error f=>exact .inl ⟨f,rfl,rfl⟩
 | ok q=>exact .inr ⟨q.1,q.2,rfl,rfl⟩
theorem zpP{r:List Wd}{s2:Ps}{t:Bs}{v:V}(hg:zdT r)(h2:s2=stS (oneM 6 opTx r))(hk:zbx s2≠4)(ht:∀ y l,oneM 6 opTx r=.ok (y,l)->y=t)(hv:∀ y l,onS (zaD s2) pVal=.ok (y,l)->y=v):(∃ f,zbM r=.error f/\onS (stS (onS (zaD s2) pVal)) (zai 41)=.error f)∨∃ y l,zbM r=.ok (⟨3,(zaH t:Int),mkS [],v⟩,l)/\onS (stS (onS (zaD s2) pVal)) (zai 41)=.ok (y,l):=by
 subst h2
 cases ho:oneM 6 opTx r with
 | error f=>exact .inl ⟨f,znr hg ho,rfl⟩
 | ok q=>
  obtain ⟨U,l⟩:=q;obtain rfl:=ht U l ho;obtain ⟨o,h1,rfl⟩:=zls hg ho;have G:zdT l:=by have:=Fine.take 61 r hg;rw[h1]at this;exact this
  rw[ho]at hk hv;simp only[stS]at hk hv ⊢
  cases hr:zaj l with
  | error f=>
   rw[(zaY hr).2];refine .inl ⟨f,?_,rfl⟩;unfold zbM;rw[h1,zak,hr];rfl
  | ok p=>
   obtain ⟨x,I⟩:=p;have hx:WdOk x:=G.2 x (zc4 hr);rw[(look_ok hr).1]at hk;rw[(look_ok hr).2]at hv ⊢;have O:pkW x≠63:=fun e=>hk ((rel63 x hx).2 e);simp only[onS]at hv ⊢;by_cases hp:pkW x=48∨pkW x=97
   ·have E:pVal l=.ok (wVal (pkW x) x.num (ptW x),I):=by simp only[pVal,hr,if_pos hp]
    obtain rfl:=hv _ _ E;have e:zbM r=andP (zai 41 I) fun _ l3=>.ok (⟨3,(zaH (ptW o):Int),mkS [],wVal (pkW x) x.num (ptW x)⟩,l3):=by
     unfold zbM;rw[h1,zak,hr,zak,if_pos hp]
    rw[e,E];simp only
    cases zai 41 I with
    | error f=>exact .inl ⟨f,rfl,rfl⟩
    | ok q=>exact .inr ⟨q.1,q.2,rfl,rfl⟩
   have E:pVal l=.error (3,x.pos):=by simp only[pVal,hr,if_neg hp]
   refine .inl ⟨(3,x.pos),?_,?_⟩
   ·unfold zbM;rw[h1,zak,hr,zak,if_neg hp,if_neg O]
   rw[E]
end Go.Proofs.YtjjjagepnnbebaaGreatDoor
