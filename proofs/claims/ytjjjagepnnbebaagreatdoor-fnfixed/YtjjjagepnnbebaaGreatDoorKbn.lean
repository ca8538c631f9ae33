/-
  OUR OWN TEXT. Rt2, Rt3, one behind the other.
-/
import Derived.Test.YtjjjagepnnbebaaGreatDoorKbj
import Derived.Test.YtjjjagepnnbebaaGreatDoorKam
import Derived.Test.YtjjjagepnnbebaaGreatDoorKbi
namespace Go.Proofs.YtjjjagepnnbebaaGreatDoor
theorem zeb{s:ByteArray}(h:isE s=true):s=mkS []:=by
 have:bsOf s=[]:=by
  have e:s.data.toList=s.toList:=(ByteArray.toList_eq _).symm;show s.data.toList=[];rw[e];simpa[isE] using h
 rw[<- zb2 s,this]
theorem zfw{v:V}(h:zbm v=true):v=zVr:=by
 obtain ⟨k,n,s⟩:=v;have hv:zbm (k,n,s)=(k==0 && (n==0 && isE s)):=rfl;rw[hv]at h;simp at h;obtain ⟨rfl,rfl,h⟩:=h;rw[zeb h];rfl
theorem brk41(r:Bs):Brk (41 :: r):=Brk.cons r (by decide)
theorem brk32(r:Bs):Brk (32 :: r):=Brk.cons r (by decide)
theorem wds32(r:Bs)(k:Nat):wds (32 :: r) k=wds r (k+1):=zjT r k (by decide)
theorem wds10(r:Bs)(k:Nat):wds (10 :: r) k=wds r (k+1):=zjT r k (by decide)
theorem zjL{t:Tm}(h:zbo t=true)(hn:zbr t.val.num):(∃ K P n,Tok (txO t) K P n/\(K=48∨K=97)/\t.var=mkS []/\t.val=wVal K n P)∨(∃ P,Tok (txO t) 63 P 0/\t.var=mkS P/\t.val=zVr):=by
 unfold zbo at h;unfold txO
 cases hv:isE t.var
 ·rw[hv]at h;simp at h;rw[if_neg (by simp)];exact .inr ⟨bsOf t.var,Tok.var h.1,(zb2 _).symm,zfw h.2⟩
 have hg:gVal t.val=true:=by
  cases hg:gVal t.val
  ·rw[hv,hg]at h;simp at h;have e:=zeb hv;rw[e]at h;exact absurd h.1 (by decide)
  rfl
 rw[if_pos rfl];rcases Tok.val hg hn with ⟨h1,h2⟩ | ⟨h1,h2⟩
 ·exact .inl ⟨48,[],_,h1,.inl rfl,zeb hv,h2⟩
 exact .inl ⟨97,_,0,h1,.inr rfl,zeb hv,h2⟩
theorem zm6{t:Tm}(h:gTm t=true)(hn:zbr t.val.num)(r:Bs)(k:Nat)(hr:Brk r):zaX (wds (txT t ++ r) k)=.ok (t,wds r (k+(txT t).length)):=by
 obtain ⟨kd,op,var,val⟩:=t;unfold gTm at h;simp only at h hn;by_cases k0:kd=0
 ·subst k0;simp at h;obtain ⟨rfl,h1,h2⟩:=h;obtain rfl:=zeb h1;obtain rfl:=zfw h2;have e:txT ⟨0,0,mkS [],zVr⟩=[95]:=rfl;obtain ⟨x,h1,h2,_,_⟩:=Tok.und.next r k hr;rw[e];unfold zaX;rw[h1,zak,if_pos h2]
 by_cases k1:kd=1
 ·subst k1;simp at h;obtain ⟨rfl,h1,h2⟩:=h;obtain rfl:=zeb h1;have e:txT ⟨1,0,mkS [],val⟩=txV val:=rfl;rw[e];unfold zaX;rcases Tok.val h2 hn with ⟨h1,h2⟩ | ⟨h1,h2⟩
  ·obtain ⟨x,I,E,G,U⟩:=h1.next r k hr;rw[I,zak,if_neg (by rw[E];decide),if_pos (.inl E),E,G,U,<- h2]
  obtain ⟨x,I,E,G,U⟩:=h1.next r k hr;rw[I,zak,if_neg (by rw[E];decide),if_pos (.inr E),E,G,U,<- h2]
 by_cases k2:kd=2
 ·subst k2;simp at h;obtain ⟨rfl,h1,h2⟩:=h;obtain rfl:=zfw h2;have e:txT ⟨2,0,var,zVr⟩=63 :: bsOf var:=rfl;obtain ⟨x,I,E,G,U⟩:=(Tok.var (s:=bsOf var) h1).next r k hr;rw[e];unfold zaX;rw[I,zak,if_neg (by rw[E];decide),if_neg (by rw[E];decide),if_pos E,G,zb2]
 by_cases k3:kd=3
 ·subst k3;simp at h;obtain ⟨h1,h2,h3⟩:=h;have e:txT ⟨3,op,var,val⟩ ++ r=40 :: (opTx.getD (op.toNat - 1) [] ++ (32 :: (txO ⟨3,op,var,val⟩ ++ (41 :: r)))):=by
   simp[txT]
  have el:(txT ⟨3,op,var,val⟩).length=1+(opTx.getD (op.toNat - 1) []).length+1+(txO ⟨3,op,var,val⟩).length+1:=by
   simp[txT];omega
  obtain ⟨ht,hx⟩:=Tok.test (i:=op.toNat - 1) (by omega);have X:(zaH (opTx.getD (op.toNat - 1) []):Int)=op:=by rw[hx];omega
  rw[e,el];unfold zaX;rw[zda,zak];have hp:pkW ⟨1,k,[],0⟩=40:=rfl;rw[if_neg (by rw[hp];decide),if_neg (by rw[hp];decide),if_neg (by rw[hp];decide),if_pos hp];unfold zbM;obtain ⟨o,I,E,G,U⟩:=ht.take (32 :: (txO ⟨3,op,var,val⟩ ++ (41 :: r))) (k+1) (brk32 _);rw[I,zak,wds32];rcases zjL (t:=⟨3,op,var,val⟩) h3 hn with ⟨K,P,n,hk,hK,e1,e2⟩ | ⟨P,hk,e1,e2⟩
  ·obtain ⟨x,Z,O,p3,p4⟩:=hk.next (41 :: r) (k+1+(opTx.getD (op.toNat - 1) []).length+1) (brk41 _);rw[Z,zak,if_pos (by rw[O];exact hK),zc1,zak,G,X,O,p3,p4];simp only at e1 e2;rw[<- e1,<- e2];congr 3;omega
  obtain ⟨x,Z,O,p3,p4⟩:=hk.next (41 :: r) (k+1+(opTx.getD (op.toNat - 1) []).length+1) (brk41 _);rw[Z,zak,if_neg (by rw[O];decide),if_pos O,zc1,zak,G,X,p3];simp only at e1 e2;rw[<- e1,<- e2];congr 3;omega
 simp[k0,k1,k2,k3]at h
theorem zmb{l l1:List Wd}{t:Tm}(h:zaX l=.ok (t,l1)):∃ x r,zaj l=.ok (x,r)/\pkW x≠41:=by
 unfold zaX at h
 cases hr:zaj l with
 | error f=>rw[hr]at h;cases h
 | ok q=>
  obtain ⟨x,r⟩:=q;refine ⟨x,r,rfl,fun e=>?_⟩;rw[hr,zak,e]at h;simp at h
theorem zfN:∀ (ts:List Tm) (n:Nat) (r:Bs) (k:Nat),ts.length<=n->(∀ t∈ts,gTm t=true/\zbr t.val.num)->zbi zaX n (wds (txTs ts ++ 41 :: r) k)=.ok (ts,wds r (k+(txTs ts).length+1))
 | [],n,r,k,_,_=>by
  show zbi zaX n (wds (41 :: r) k)=_
  rw[zg7 (zep r k) rfl]
  rfl
 | t :: ts,n,r,k,hl,ht=>by
  obtain ⟨m,rfl⟩:∃ m,n=m+1:=⟨n - 1,by simp at hl;omega⟩
  obtain ⟨g1,g2⟩:=ht t (by simp)
  have e:txTs (t :: ts) ++ 41 :: r=32 :: (txT t ++ (txTs ts ++ 41 :: r)):=by simp[txTs]
  have I:(txTs (t :: ts)).length=1+(txT t).length+(txTs ts).length:=by simp[txTs];omega
  have hb:Brk (txTs ts ++ 41 :: r):=by
   cases ts with
   | nil=>exact brk41 r
   | cons u O=>exact Brk.cons _ (by decide)
  have h1:=zm6 g1 g2 (txTs ts ++ 41 :: r) (k+1) hb;obtain ⟨x,q,hx,E⟩:=zmb h1;rw[e,I,wds32];unfold zbi;rw[hx];simp only[if_neg E];rw[h1];simp only;rw[zfN ts m r _ (by simp at hl;omega) (fun u G=>ht u (by simp[G]))];simp only;congr 3;omega
theorem zlh{s:ByteArray}(h:gCls s=true):gSym (bsOf s)=true/\bsOf s≠notT:=by
 unfold gCls at h;simp at h;refine ⟨h.1,fun e=>h.2 ?_⟩;rw[<- zb2 s,e];rfl
theorem zoC{p:Pt}(h:gPt p=true)(hn:∀ t∈p.terms,zbr t.val.num)(r:Bs)(k:Nat):andP (zai 40 (wds (txP p ++ r) k)) (fun _ l1=>pPat l1)=.ok (p,wds r (k+(txP p).length)):=by
 obtain ⟨neg,cls,ts⟩:=p;unfold gPt at h;simp at h;obtain ⟨hc,hl,ha⟩:=h;have ht:∀ t∈ts,gTm t=true/\zbr t.val.num:=fun t ht=>⟨ha t ht,hn t ht⟩
 obtain ⟨hs,E⟩:=zlh hc;have hb:Brk (txTs ts ++ 41 :: r):=by
  cases ts with
  | nil=>exact brk41 r
  | cons u us=>exact Brk.cons _ (by decide)
 cases neg with
 | false=>
  have e:txP ⟨false,cls,ts⟩ ++ r=40 :: (bsOf cls ++ (txTs ts ++ 41 :: r)):=by simp[txP]
  have O:(txP ⟨false,cls,ts⟩).length=1+(bsOf cls).length+(txTs ts).length+1:=by simp[txP];omega
  rw[e,O,zcq,zak];obtain ⟨x,I,X,G,q4⟩:=(Tok.sym hs).take (txTs ts ++ 41 :: r) (k+1) hb;unfold pPat;rw[I,zak,G,if_neg E,zfN ts 6 r _ hl ht,zak,zb2];congr 3;omega
 | true=>
  have e:txP ⟨true,cls,ts⟩ ++ r=40 :: (notX ++ (32 :: (bsOf cls ++ (txTs ts ++ 41 :: r)))):=by simp[txP]
  have O:(txP ⟨true,cls,ts⟩).length=1+notX.length+1+(bsOf cls).length+(txTs ts).length+1:=by simp[txP];omega
  rw[e,O,zcq,zak];obtain ⟨x,I,X,G,q4⟩:=(Tok.sym (t:=notX) (by decide)).take (32 :: (bsOf cls ++ (txTs ts ++ 41 :: r))) (k+1) (brk32 _);obtain ⟨y,U,p2,Z,p4⟩:=(Tok.sym hs).take (txTs ts ++ 41 :: r) (k+1+notX.length+1) hb;unfold pPat;rw[I,zak,G,if_pos (show notX=notT from rfl),wds32];unfold za3;rw[U];simp only[Z,if_neg E,zak];rw[zfN ts 6 r _ hl ht,zak,zb2];congr 3;omega
theorem zkk(r:Bs)(k:Nat):wds (zbJ ++ r) k=wds r (k+3):=by
 show wds (10 :: 32 :: 32 :: r) k=_;rw[wds10,wds32,wds32]
theorem zji:∀ (ps:List Pt) (n:Nat) (r:Bs) (k:Nat),ps.length<=n->(∀ p∈ps,gPt p=true/\∀ t∈p.terms,zbr t.val.num)->Brk r->andP (za1 62 pPat n (wds (txPs ps ++ (zbJ ++ (zcz ++ r))) k)) (fun vs l4=>andP (zai 62 l4) fun _ l5=>.ok (vs,l5))=.ok (ps,wds r (k+(txPs ps).length+5))
 | [],n,r,k,_,_,hr=>by
  show andP (za1 62 pPat n (wds (zbJ ++ (zcz ++ r)) k)) _=_
  obtain ⟨x,h1,h2,_,_⟩:=Tok.to.next r (k+3) hr
  obtain ⟨y,U,_,_,_⟩:=Tok.to.take r (k+3) hr
  rw[zkk]
  change zaj (wds (zcz ++ r) (k+3))=_ at h1
  change zai 62 (wds (zcz ++ r) (k+3))=_ at U
  rw[zdz h1 h2,zak,U,zak]
  rfl
 | p :: ps,n,r,k,hl,hp,hr=>by
  obtain ⟨m,rfl⟩:∃ m,n=m+1:=⟨n - 1,by simp at hl;omega⟩
  obtain ⟨g1,g2⟩:=hp p (by simp)
  have e:txPs (p :: ps) ++ (zbJ ++ (zcz ++ r))=zbJ ++ (txP p ++ (txPs ps ++ (zbJ ++ (zcz ++ r)))):=by simp[txPs]
  have Z:(txPs (p :: ps)).length=3+(txP p).length+(txPs ps).length:=by simp[txPs,zbJ];omega
  have I:=zoC g1 g2 (txPs ps ++ (zbJ ++ (zcz ++ r))) (k+3)
  have ho:∃ s,txP p ++ (txPs ps ++ (zbJ ++ (zcz ++ r)))=40 :: s:=⟨_,rfl⟩
  obtain ⟨s,hs⟩:=ho
  rw[e,Z,zkk]
  rw[hs]at I ⊢
  rw[zcq,zak]at I
  have E:=zcZ (M:=[]) (k:=62) (rd:=pPat) (n:=m) (zda s (k+3)) (show (40:Int)≠62 by decide) (zcq s (k+3)) I
  have h1:za1 62 pPat (m+1) (wds (40 :: s) (k+3))=preL [p] (za1 62 pPat m (wds (txPs ps ++ (zbJ ++ (zcz ++ r))) (k+3+(txP p).length))):=by
   cases O:za1 62 pPat (m+1) (wds (40 :: s) (k+3)) with
   | error f=>rw[O]at E;exact E
   | ok q=>rw[O]at E;simpa[preL] using E
  rw[h1];have G:=zji ps m r (k+3+(txP p).length) (by simp at hl;omega) (fun u X=>hp u (by simp[X])) hr
  cases O:za1 62 pPat m (wds (txPs ps ++ (zbJ ++ (zcz ++ r))) (k+3+(txP p).length)) with
  | error f=>rw[O]at G;cases G
  | ok q=>
   obtain ⟨vs,l4⟩:=q;rw[O,zak]at G;show andP (zai 62 l4) (fun _ l5=>.ok ([p] ++ vs,l5))=_
   cases ht:zai 62 l4 with
   | error f=>rw[ht]at G;cases G
   | ok z=>
    obtain ⟨x,l5⟩:=z;rw[ht,zak]at G;injection G with G;injection G with i1 i2;rw[zak,i1,i2];congr 3;omega
theorem zgs{n:Nat}{l l1:List Wd}{x:Wd}(hn:n<60)(h:zaj l=.ok (x,l1)):zaW (n:Int) 60 l=.ok ((),l):=by
 unfold zaW;rw[h];simp only;rw[if_neg (fun e=>by have:=e.1;omega)]
theorem zmQ{e:Ex}(h:zaZ e=true):e.op=0/\e.a=0/\e.b=0:=by
 unfold zaZ at h;simpa using h
theorem znD{es:List Ex}{S:List Sp}(hT:ExT es S):∀ (i a G:Nat),S[i]?=some (a,G)->a<=i/\∀ (n f d:Nat) (r:Bs) (k:Nat),G<n->G<=f->i+1+d<=60->Brk r ->
  zaw f (es.take a,a+d) (wds (txE n es i ++ r) k)=.ok (((i:Int),(es.take (i+1),i+1+d)),wds r (k+(txE n es i).length)):=by
 intro i
 induction i using Nat.strongRecOn with
 | _ i ih=>
  intro a G hs;obtain ⟨hl,ap,aw,ag⟩:=hT;have hi:i<S.length:=(List.getElem?_eq_some_iff.1 hs).1;obtain ⟨e,he⟩:∃ e,es[i]?=some e:=⟨es[i]'(by omega),by simp[show i<es.length by omega]⟩
  have E:=ap.2 i _ e hs he;have ah:(S.take i).length=i:=by rw[List.length_take];omega
  have ad:(es.take i).length=i:=by rw[List.length_take];omega
  have af:=zdG es i e he;have ao:=ag e (List.mem_of_getElem? he);unfold zaJ at E;by_cases k0:e.kind=0
  ·simp[k0]at E;obtain ⟨⟨h1,h2,h3⟩,h4,h5⟩:=E;have ha:a=i:=by omega
   have hd:G=0:=h5.symm;subst ha;refine ⟨Nat.le_refl _,fun n f d r k hn hf hb hr=>?_⟩;obtain ⟨n,rfl⟩:∃ m,n=m+1:=⟨n - 1,by omega⟩
   rw[zfW n es a e he,if_neg (by omega),if_neg (by omega),af];obtain ⟨l1,l2,l3⟩:=zmQ h1;have hE:∀ v,e.val=v->e=⟨0,0,mkS [],v,0,0⟩:=fun v hv=>by
    obtain ⟨c0,c1,c2,c3,c4,c5⟩:=e;simp only at k0 l1 l2 l3 h2 hv;rw[k0,l1,zeb h2,l2,l3,hv]
   rcases Tok.val h3 ao with ⟨t1,t2⟩ | ⟨t1,t2⟩
   ·obtain ⟨x,X,q2,q3,q4⟩:=t1.next r k hr;rw[zcw (zgs (n:=a+d) (by omega) X) X (.inl q2),q2,q3,q4,ad,<- hE _ t2];congr 4;omega
   obtain ⟨x,X,q2,q3,q4⟩:=t1.next r k hr;rw[zcw (zgs (n:=a+d) (by omega) X) X (.inr q2),q2,q3,q4,ad,<- hE _ t2];congr 4;omega
  by_cases k1:e.kind=1
  ·simp[k1]at E;obtain ⟨⟨h1,h2,h3⟩,h4,h5⟩:=E;have ha:a=i:=by omega
   have hd:G=0:=h5.symm;subst ha;refine ⟨Nat.le_refl _,fun n f d r k hn hf hb hr=>?_⟩;obtain ⟨n,rfl⟩:∃ m,n=m+1:=⟨n - 1,by omega⟩
   rw[zfW n es a e he,if_pos k1,af];obtain ⟨l1,l2,l3⟩:=zmQ h1;have hE:e=⟨1,0,mkS (bsOf e.var),zVr,0,0⟩:=by
    obtain ⟨c0,c1,c2,c3,c4,c5⟩:=e;simp only at k1 l1 l2 l3 h3 ⊢;rw[k1,l1,zb2,l2,l3,zfw h3]
   obtain ⟨x,X,q2,q3,q4⟩:=(Tok.var (s:=bsOf e.var) h2).next r k hr;rw[zdF (zgs (n:=a+d) (by omega) X) X q2,q3,ad,<- hE];congr 4;omega
  by_cases k2:e.kind=2
  ·simp[k2]at E;obtain ⟨h1,h2⟩:=E;unfold opOk at h1;simp[ah]at h1;obtain ⟨o1,o2,o3,o4,o5,o6⟩:=h1;unfold zdq at h2
   cases I:(S.take i)[e.b.toNat]? with
   | none=>simp[I]at h2
   | some sb=>
    cases O:(S.take i)[e.a.toNat]? with
    | none=>simp[I,O]at h2
    | some sa=>
     simp[I,O]at h2;obtain ⟨⟨h3,h4⟩,h5,h6⟩:=h2;obtain ⟨U,ae⟩:∃ x:Nat,e.a=(x:Int):=⟨e.a.toNat,by omega⟩
     obtain ⟨Z,ab⟩:∃ x:Nat,e.b=(x:Int):=⟨e.b.toNat,by omega⟩
     rw[ae,Int.toNat_natCast]at O;rw[ab,Int.toNat_natCast]at I;have ak:Z+1=i:=by omega
     have ay:U<i:=by
      have:=(List.getElem?_eq_some_iff.1 O).1;omega
     rw[List.getElem?_take,if_pos (by omega)]at O I;obtain ⟨a1,d1⟩:=sa;obtain ⟨a2,d2⟩:=sb;simp only at h3 h4 h5 h6;have al:a2=U+1:=by omega
     obtain ⟨ra,aj⟩:=ih U (by omega) a1 d1 O;obtain ⟨rb,aq⟩:=ih Z (by omega) a2 d2 I;subst h5;refine ⟨by omega,fun n f d r k hn hf hb hr=>?_⟩;obtain ⟨n,rfl⟩:∃ m,n=m+1:=⟨n - 1,by omega⟩
     obtain ⟨f,rfl⟩:∃ m,f=m+1:=⟨f - 1,by omega⟩
     have ax:d1<=max d1 d2:=Nat.le_max_left _ _;have au:d2<=max d1 d2:=Nat.le_max_right _ _;obtain ⟨tk,tv⟩:=Tok.ar o1;rw[zfW n es i e he,if_neg (by omega),if_pos k2,ae,ab,Int.toNat_natCast,Int.toNat_natCast];have ex:(40 :: UInt8.ofNat e.op.toNat :: 32 :: (txE n es U ++ 32 :: (txE n es Z ++ [41]))) ++ r=40 :: ([UInt8.ofNat e.op.toNat] ++ (32 :: (txE n es U ++ (32 :: (txE n es Z ++ (41 :: r)))))):=by simp
     have el:(40 :: UInt8.ofNat e.op.toNat :: 32 :: (txE n es U ++ 32 :: (txE n es Z ++ [41]))).length=3+(txE n es U).length+1+(txE n es Z).length+1:=by simp;omega
     rw[ex,el,zfh (zgs (n:=a1+d) (by omega) (zda _ k)) (zda _ k) rfl];unfold pOp;obtain ⟨o,X,q2,q3,q4⟩:=tk.take (32 :: (txE n es U ++ (32 :: (txE n es Z ++ (41 :: r))))) (k+1) (brk32 _);rw[X,zak,wds32];have r1:=aj n f (d+1) (32 :: (txE n es Z ++ (41 :: r))) (k+1+[UInt8.ofNat e.op.toNat].length+1) (by omega) (by omega) (by omega) (brk32 _);rw[show a1+d+1=a1+(d+1) by omega,r1,zak,wds32];have r2:=aq n f (d+1) (41 :: r) (k+1+[UInt8.ofNat e.op.toNat].length+1+(txE n es U).length+1) (by omega) (by omega) (by omega) (brk41 _);rw[al]at r2;simp only;rw[r2,zak,zc1,zak,zak,q3];have hE:e=⟨2,((([UInt8.ofNat e.op.toNat]:Bs).headD 0).toNat:Int),mkS [],zVr,(U:Int),(Z:Int)⟩:=by
      obtain ⟨c0,c1,c2,c3,c4,c5⟩:=e;simp only at k2 o2 o3 ae ab tv ⊢;rw[k2,zeb o2,zfw o3,ae,ab];congr 1;exact tv.symm
     simp only;rw[<- hE,ak,<- af,ad];refine congrArg Except.ok (Prod.ext (Prod.ext rfl (Prod.ext rfl ?_)) (congrArg (wds r) ?_))
     ·show i+(d+1)=i+1+d;omega
     show k+1+[UInt8.ofNat e.op.toNat].length+1+(txE n es U).length+1+(txE n es Z).length+1=_;simp;omega
  simp[k0,k1,k2]at E
theorem zmv{f:Nat}{s:ES}{l l1:List Wd}{q:Int × ES}(h:zaw f s l=.ok (q,l1)):∃ x r,zaj l=.ok (x,r)/\pkW x≠41:=by
 cases hb:zaW (s.2:Int) 60 l with
 | error e=>rw[zdc hb]at h;cases h
 | ok u=>
  cases hr:zaj l with
  | error e=>rw[zdC hb hr]at h;cases h
  | ok p=>
   obtain ⟨x,r⟩:=p;refine ⟨x,r,rfl,fun e=>?_⟩;rw[zcy hb hr (by rw[e];decide) (by rw[e];decide) (by rw[e];decide)]at h
   cases h
theorem zl1{es:List Ex}{S:List Sp}(X:ExT es S){i:Nat}{s:Sp}(h:S[i]?=some s):s.2<=20:=by
 obtain ⟨hl,G,O,I⟩:=X;have hi:i<S.length:=(List.getElem?_eq_some_iff.1 h).1;obtain ⟨e,he⟩:∃ e,es[i]?=some e:=⟨es[i]'(by omega),by simp[show i<es.length by omega]⟩
 have E:=G.2 i _ e h he;unfold zaJ at E;split at E
 ·split at E
  ·injection E with E;rw[<- E];simp
  cases E
 split at E
 ·split at E
  ·injection E with E;rw[<- E];simp
  cases E
 split at E
 ·split at E
  ·unfold zdq at E;split at E
   ·split at E
    ·rename_i U;injection E with E;rw[<- E];simp at U ⊢;omega
    ·cases E
   cases E
  ·cases E
 cases E
theorem zjR{es:List Ex}{S:List Sp}(G:ExT es S):∀ (xs:List Int) (n nx nx':Nat) (r:Bs) (k:Nat),xs.length<=n->zaT S xs nx=some nx' ->
  zaB (zaw 20) n (es.take nx,nx) (wds (zaG es xs ++ 41 :: r) k)=.ok ((xs,(es.take nx',nx')),wds r (k+(zaG es xs).length+1))
 | [],n,nx,nx',r,k,_,h=>by
  unfold zaT at h
  injection h with h
  subst h
  show zaB (zaw 20) n (es.take nx,nx) (wds (41 :: r) k)=_
  cases n <;> (unfold zaB;rw[zep];rfl)
 | x :: xs,n,nx,nx',r,k,hl,h=>by
  obtain ⟨m,rfl⟩:∃ m,n=m+1:=⟨n - 1,by simp at hl;omega⟩
  unfold zaT at h
  split at h
  ·rename_i U
   simp at U
   obtain ⟨h0,h1,h2⟩:=U
   obtain ⟨i,rfl⟩:∃ i:Nat,x=(i:Int):=⟨x.toNat,by omega⟩
   rw[Int.toNat_natCast]at h h2
   have hi:i<S.length:=by omega
   have X:=G.2.2.1
   have h60:=G.1
   obtain ⟨⟨a,O⟩,hs⟩:∃ s,S[i]?=some s:=⟨S[i],by simp[hi]⟩
   rw[hs]at h2
   simp at h2
   subst h2
   have e:zaG es ((i:Int) :: xs) ++ 41 :: r=32 :: (txE 60 es i ++ (zaG es xs ++ 41 :: r)):=by simp[zaG]
   have Z:(zaG es ((i:Int) :: xs)).length=1+(txE 60 es i).length+(zaG es xs).length:=by simp[zaG];omega
   have hb:Brk (zaG es xs ++ 41 :: r):=by
    cases xs with
    | nil=>exact brk41 r
    | cons u us=>exact Brk.cons _ (by decide)
   have E:=zl1 G hs;have h1:=(znD G i a O hs).2 60 20 0 (zaG es xs ++ 41 :: r) (k+1) (by simp at E;omega) E (by omega) hb;obtain ⟨x,q,hx,I⟩:=zmv h1;rw[e,Z,wds32];unfold zaB;rw[hx];simp only[if_neg I];rw[Nat.add_zero]at h1;rw[h1];simp only[Nat.add_zero];rw[zjR G xs m (i+1) nx' r _ (by simp at hl;omega) h];simp only;congr 3;omega
  cases h
end Go.Proofs.YtjjjagepnnbebaaGreatDoor
