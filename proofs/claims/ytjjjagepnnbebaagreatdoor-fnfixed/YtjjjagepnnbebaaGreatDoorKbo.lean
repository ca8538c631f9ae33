/-
  OUR OWN TEXT. Ws1, Ws2, one behind the other.
-/
import Derived.Test.YtjjjagepnnbebaaGreatDoorKbj
namespace Go.Proofs.YtjjjagepnnbebaaGreatDoor
theorem zlp{x:Wd}(hx:WdOk x)(h:pkW x=97):gSym (ptW x)=true:=by
 obtain ⟨h1,h2,_,_⟩:=zdM hx (by omega) (by omega);rw[h1]at h;rw[h2];unfold pkind at h;unfold ptext;split
 ·rename_i hn;rw[if_pos hn]at h;omega
 rename_i hn;rw[if_neg hn]at h;split
 ·assumption
 rename_i hs;rw[if_neg hs]at h
 repeat' split at h
 all_goals omega
theorem zlD{x:Wd}(hx:WdOk x)(h:pkW x=63):gSym (ptW x)=true:=by
 obtain ⟨h1,h2,_,_⟩:=zdM hx (by omega) (by omega);rw[h1]at h;rw[h2];unfold pkind at h;unfold ptext;split
 ·rename_i hn;rw[if_pos hn]at h;omega
 rename_i hn;rw[if_neg hn]at h;split
 ·assumption
 rename_i hs;rw[if_neg hs]at h;split
 ·rename_i hv;simp only[zbW,Bool.and_eq_true]at hv;exact hv.2
 rename_i hv;rw[if_neg hv]at h
 repeat' split at h
 all_goals omega
theorem zqq{x:Wd}(hx:WdOk x)(h:pkW x=61):1<=zaH (ptW x)/\zaH (ptW x)<=6:=by
 obtain ⟨h1,h2,_,_⟩:=zdM hx (by omega) (by omega);rw[h1]at h;have E:zaH (ptW x)<=6:=by
  unfold zaH
  repeat' split
  all_goals omega
 have G:zaH (ptW x)≠0:=by
  rw[h2];unfold pkind at h;unfold ptext;split
  ·rename_i hn;rw[if_pos hn]at h;omega
  rename_i hn;rw[if_neg hn]at h;split
  ·rename_i hs;rw[if_pos hs]at h;omega
  rename_i hs;rw[if_neg hs]at h;split
  ·rename_i hv;rw[if_pos hv]at h;omega
  rename_i hv;rw[if_neg hv]at h;split
  ·assumption
  rename_i ht;rw[if_neg ht]at h
  repeat' split at h
  all_goals omega
 omega
theorem zdi(l:Bs):(mkS l).data.toList=l:=by simp[mkS]
theorem zdN:isE (mkS [])=true:=by decide +kernel
theorem zk0{x:Wd}(hx:WdOk x)(h:pkW x=48∨pkW x=97):gVal (wVal (pkW x) x.num (ptW x))=true:=by
 unfold wVal;rcases h with h | h
 ·rw[if_pos h];have:=zdN;unfold isE at this;simp[gVal,V.kind,V.sym,this]
 rw[if_neg (by omega)];have:=zlp hx h;simp[gVal,V.kind,V.sym,V.num,zdi,this]
theorem zkd:zbm zVr=true:=by decide +kernel
theorem zpr{l r:List Wd}{t:Tm}(h:zbM l=.ok (t,r))(hg:GdW l):gTm t=true:=by
 unfold zbM at h;obtain ⟨o,l1,ho,h⟩:=zan h;obtain ⟨x,l2,hx,h⟩:=zan h;obtain ⟨O,g1,I,E⟩:=zaN ho hg;obtain ⟨U,g2,x1,_⟩:=zby hx g1;have G:=zqq I E;split at h
 ·rename_i hk;obtain ⟨b,l3,hb,h⟩:=zan h;have hv:=zk0 x1 hk
  cases h
  have i1:(1:Int)<=(zaH (ptW o):Int):=by omega
  have i2:(zaH (ptW o):Int)<=6:=by omega
  simp[gTm,zbo,zdN,hv,i1,i2]
 split at h
 ·rename_i hk;obtain ⟨b,l3,hb,h⟩:=zan h;have hv:=zlD x1 hk
  cases h
  have i1:(1:Int)<=(zaH (ptW o):Int):=by omega
  have i2:(zaH (ptW o):Int)<=6:=by omega
  simp[gTm,zbo,zdi,hv,zkd,i1,i2]
 cases h
theorem zk6{l r:List Wd}{t:Tm}(h:zaX l=.ok (t,r))(hg:GdW l):gTm t=true:=by
 unfold zaX at h;obtain ⟨x,l1,hx,h⟩:=zan h;obtain ⟨E,g1,x1,_⟩:=zby hx hg;split at h
 ·cases h
  simp[gTm,zdN,zkd]
 split at h
 ·rename_i hk;have hv:=zk0 x1 hk
  cases h
  simp[gTm,zdN,hv]
 split at h
 ·rename_i hk;have hv:=zlD x1 hk
  cases h
  simp[gTm,zdi,hv,zkd]
 split at h
 ·exact zpr h g1
 cases h
theorem zfA{α:Type}{rd:List Wd->Px α}{P:α->Prop}(E:∀ l v r,rd l=.ok (v,r)->GdW l->P v/\GdW r):∀ (n:Nat) {l r:List Wd}{vs:List α},zbi rd n l=.ok (vs,r)->GdW l->vs.length<=n/\(∀ v∈vs,P v)/\GdW r:=by
 intro n
 induction n with
 | zero=>
  intro l r vs h hg;unfold zbi at h
  cases hn:zaj l with
  | error e=>rw[hn]at h;cases h
  | ok q=>
   obtain ⟨x,t⟩:=q;rw[hn]at h;obtain ⟨I,g1,x1,_⟩:=zby hn hg;simp only at h;split at h
   ·cases h
    exact ⟨by simp,by simp,g1⟩
   ·split at h <;> cases h
 | succ n O=>
  intro l r vs h hg;unfold zbi at h
  cases hn:zaj l with
  | error e=>rw[hn]at h;cases h
  | ok q=>
   obtain ⟨x,t⟩:=q;rw[hn]at h;obtain ⟨I,g1,x1,_⟩:=zby hn hg;simp only at h;split at h
   ·cases h
    exact ⟨by simp,by simp,g1⟩
   cases hr:rd l with
   | error e=>rw[hr]at h;cases h
   | ok q=>
    obtain ⟨v,l1⟩:=q;rw[hr]at h;simp only at h;obtain ⟨a,b⟩:=E _ _ _ hr hg
    cases hp:zbi rd n l1 with
    | error e=>rw[hp]at h;cases h
    | ok q=>
     obtain ⟨X,l2⟩:=q;rw[hp]at h;simp only at h;obtain ⟨a2,U,c2⟩:=O hp b
     cases h
     exact ⟨by simp;omega,fun u G=>by
      rcases List.mem_cons.1 G with rfl | G
      ·exact a
      exact U u G,c2⟩
theorem zfj{α:Type}{k:Int}{rd:List Wd->Px α}{P:α->Prop}(E:∀ l v r,rd l=.ok (v,r)->GdW l->P v/\GdW r):∀ (n:Nat) {l r:List Wd}{vs:List α},za1 k rd n l=.ok (vs,r)->GdW l->vs.length<=n/\(∀ v∈vs,P v)/\GdW r:=by
 intro n
 induction n with
 | zero=>
  intro l r vs h hg;unfold za1 at h
  cases hn:zaj l with
  | error e=>rw[hn]at h;cases h
  | ok q=>
   obtain ⟨x,t⟩:=q;rw[hn]at h;simp only at h;split at h
   ·cases h
    exact ⟨by simp,by simp,hg⟩
   ·split at h <;> cases h
 | succ n I=>
  intro l r vs h hg;unfold za1 at h
  cases hn:zaj l with
  | error e=>rw[hn]at h;cases h
  | ok q=>
   obtain ⟨x,t⟩:=q;rw[hn]at h;simp only at h;split at h
   ·cases h
    exact ⟨by simp,by simp,hg⟩
   cases ht:zai 40 l with
   | error e=>rw[ht]at h;cases h
   | ok q=>
    obtain ⟨y,l1⟩:=q;rw[ht]at h;simp only at h;obtain ⟨Z,g1,y1,X⟩:=zaN ht hg
    cases hr:rd l1 with
    | error e=>rw[hr]at h;cases h
    | ok q=>
     obtain ⟨v,l2⟩:=q;rw[hr]at h;simp only at h;obtain ⟨a,b⟩:=E _ _ _ hr g1
     cases hp:za1 k rd n l2 with
     | error e=>rw[hp]at h;cases h
     | ok q=>
      obtain ⟨U,l3⟩:=q;rw[hp]at h;simp only at h;obtain ⟨a2,O,c2⟩:=I hp b
      cases h
      exact ⟨by simp;omega,fun u G=>by
       rcases List.mem_cons.1 G with rfl | G
       ·exact a
       exact O u G,c2⟩
theorem znS{c:Bs}(h:gSym c=true)(hn:c≠notT):gCls (mkS c)=true:=by
 have:mkS c≠notB:=fun e=>hn (by
  have:=congrArg (fun s:ByteArray=>s.data.toList) e;simp only[zdi]at this;rw[this];rfl)
 simp[gCls,zdi,h,this]
theorem zfv{l r:List Wd}{t:Bs}(h:za3 l=.ok (t,r))(hg:GdW l):gCls (mkS t)=true/\GdW r:=by
 have E:=(zhg h hg).2;unfold za3 at h
 cases ht:zai 97 l with
 | error e=>rw[ht]at h;cases h
 | ok q=>
  obtain ⟨x,l1⟩:=q;rw[ht]at h;simp only at h;obtain ⟨I,g1,x1,G⟩:=zaN ht hg;split at h
  ·cases h
  rename_i hn
  cases h
  exact ⟨znS (zlp x1 G) hn,E⟩
theorem zqg{l r:List Wd}{p:Pt}(h:pPat l=.ok (p,r))(hg:GdW l):gPt p=true:=by
 unfold pPat at h;obtain ⟨x,l1,hx,h⟩:=zan h;obtain ⟨O,g1,x1,G⟩:=zaN hx hg;split at h
 ·obtain ⟨c,l2,I,h⟩:=zan h;obtain ⟨ts,l3,ht,h⟩:=zan h;obtain ⟨E,g2⟩:=zfv I g1;obtain ⟨h1,h2,_⟩:=zfA (P:=fun t=>gTm t=true) (fun _ _ _ h hg=>⟨zk6 h hg,(zer h hg).2⟩) 6 ht g2
  cases h
  simp only[gPt,Bool.and_eq_true,decide_eq_true_eq,List.all_eq_true];exact ⟨E,h1,h2⟩
 rename_i hn;obtain ⟨ts,l3,ht,h⟩:=zan h;obtain ⟨h1,h2,_⟩:=zfA (P:=fun t=>gTm t=true) (fun _ _ _ h hg=>⟨zk6 h hg,(zer h hg).2⟩) 6 ht g1
 cases h
 simp only[gPt,Bool.and_eq_true,decide_eq_true_eq,List.all_eq_true];exact ⟨znS (zlp x1 G) hn,h1,h2⟩
end Go.Proofs.YtjjjagepnnbebaaGreatDoor
