import Derived.Test.YtikojfajahnhgaaGreatKab
set_option linter.all false
set_option maxHeartbeats 3200000
set_option maxRecDepth 100000
namespace Go.Proofs.YtikojfajahnhgaaGreat
open Go.RowKit Go.Proofs.Tryz
attribute [local go_sem ↓] wp_at_zero wp_at_succ
attribute [local simp] At I6 Pn mzI Bk
attribute [local go_sem] At I6 Pn Bk
variable{P:Prop}
section
open Go.Deep
def U4:laidOutB prog=true:=qg
def j6:ownKnob prog.godebug=none:=qg
def US:prog.cellsOf 3=1:=qg
def zsw:prog.cellsOf 2=1:=qg
def XV:prog.cellsOf 9=1:=qg
def ER(v:V):Prop:=(Lit.int .i64 v.w).wf=true/\(Lit.int .i64 v.num).wf=true/\v.O.size<=maxLen
def zly{α:Type}{f len i}{x:α}(h:((List.range len).map f)[i]?=some x):i<len/\f i=x:=by
 have a:i<len:=by simpa using(yf.1 h).1
 simp[a]at h;exact⟨a,h⟩
def zqr{w:Aa}{b o a n x y}(O:w.cell? ((⟨b,o,a⟩:Addr).add 0)=some x)(_h:w.cell? ((⟨b,o,a⟩:Addr).add n)=some y):a=none:=by
 have c:=World.cell?_spot O;simpa[Addr.add] using c
section
variable {H : Type} {enc : TypeId × Value -> H} {w : Aa} {base : Nat} {spare : Nat -> Bool} {held : Bool}
end
end
def zjp{P}(w l y ty f b o g A e O x m cs)(hu:P.underlying l=some (.slice f))(k:(P.info? f).map (·.size)=some m)(n:cs.length=Nat.min O g*m)(c:e=none->O=0)(t:∀a,e=some a->∀j v,cs[j]?=some v->w.cell? (a.add j)=some v)(hc:∀j,j<cs.length->(w.cell? ⟨b,o+j,none⟩).isSome=true)(z:∀j,j<cs.length->w.frozen? ⟨b,o+j,none⟩=false)(u:∀v∈cs,v.oneCell'=true) :
  (Builtin.copy_ #[l,y] ty #[.slice (some ⟨b,o,none⟩) g A,.slice e O x]).run P w=.ok (goInt (Nat.min O g)) (w.setCells b o cs):=by
 have p:=run_storeCells_cells (P:=P) b o cs 0 w NA (by simpa using z) u;cases d:P.info? f with
 |none=>simp[d]at k
 |some i=>
  have q:i.size=m:=by simpa[d] using k
  cases e with
  |none=>
   have r:=c rfl;subst r;have s:cs=[]:=YJ (by simpa using n);subst s;simp[Builtin.copy_,run_underlying hu,Builtin.lenOf,Builtin.firstCells,sizeOf,typeInfo,d,storeCells,World.setCells]
  |some a=>
   have hl:=run_loadCells_list (P:=P) w a cs (t a rfl);simp[Builtin.copy_,run_underlying hu,Builtin.lenOf,Builtin.firstCells,sizeOf,typeInfo,d,q,<-n,hl,p]
structure Turned(w w':Aa) (b:Nat):Prop where
 os:w'.os=w.os
 tape:w'.tape=w.tape
 output:w'.output=w.output
 size:w'.heap.size=w.heap.size
 block:∀k,k≠b->w'.heap[k]?=w.heap[k]?
def Turned.setCells:∀(vs:Aj)(o:Nat)(w:Aa)(b:Nat),Turned w (w.setCells b o vs) b
 |[],_,_,_=>⟨rfl,rfl,rfl,rfl,λ_ _=>rfl⟩
 |v::r,o,w,b=>by
  have h:=Turned.setCells r (o+1) (w.setCell ⟨b,o,none⟩ v) b
  exact⟨h.os,h.tape,h.output,h.size.c (by simp[World.setCell]),λk a=>(h.block k a).c (yD _ _ _ _ a)⟩
theorem Turned.e{w w' b B}(h:Turned w w' b)(c:B<=b):Below B w w':=
 ⟨h.os,h.tape,h.output,WP h.size.z,λk a=>h.block k qd⟩
theorem Turned.cell{w w' b}(h:Turned w w' b){p}(a:p.block≠b):w'.cell? p=w.cell? p:=yP (w:=w) (h.block _ a)
def iT{w:Aa}{g o c t a}(h:w.heap[g]?=some (.cells c t a))(vs)(e:o+vs.length<=c.size) :
  (w.setCells g o vs).heap[g]?=some (.cells (c.toList.take o++(vs++c.toList.drop (o+vs.length))).toArray t a):=by
 obtain⟨m,k,l,j,f⟩:=iN vs o w g c t a h;rw[k];congr 2;apply Array.ext';apply YH;intro i;rw[Yn];by_cases b:i<o
 .rw[f i (Or.inl b)];simp only[KD,YL,W7,YW];rw[if_pos qd,if_pos b,Yn]
 by_cases hj:i<o+vs.length
 .have d:vs[i-o]?=some (vs[i-o]'(by omega)):=yK _;have:=j (i-o) _ d qd;rw[show o+(i-o)=i by omega]at this;rw[this];simp only[KD,YL,W7];rw[if_neg qd,if_pos qd,show i-min o c.size=i-o by omega,d]
 rw[f i (Or.inr qd)];simp only[KD,YL,W7,KX];rw[if_neg qd,if_neg qd,show o+vs.length+(i-min o c.size-vs.length)=i by omega,Yn]
def b_{w:Aa}{b c t}(h:Bk w b c t){o n}(a:o+n<=c.size):w.there b o n:=λj hj=>by
 have hlt:o+j<c.size:=qd;simp[World.cell?,World.frozen?,h,hlt]
def Nh{w:Aa}{b c t a}(h:w.heap[b]?=some (.cells c.toArray t a)):w.rangeAt b 0 c:=λj v hv=>by
 simp[World.cell?,h,hv]
def Ec{P ops rest d a w Q}(O:d.guard=none)(ty x y)(i:d.op=.store ty x y)(b)(L:Aj)(f:a.eval x=Pn b)(j:a.eval y=.agg L.toArray)(c t)(e:Bk w b c t)(k:c.size=L.length)(hi:(P.info? ty).map (·.size)=some L.length)(g:∀v∈L,v.oneCell'=true)(h:∀w',Hid (Bk w' b (L.toArray) t)->Hid (Turned w w' b)->wpList P ops Q rest (a.put d.dst undef) w'):wpList P ops Q (d::rest) a w:=by
 refine wpList_store_mid O ty x y i b 0 L.toArray f j (b_ e qe) T8 (all_oneCell_toArray g) (h _ ?_ (Turned.setCells _ _ _ _));show _=_;have:=iT e (o:=0) L qd;rw[this];simp[yH (show c.toList.length<=L.length by simp;omega)]
def iR{P ops rest c a w Q}(O:c.guard=none)(ty x)(i:c.op=.load ty x)(b)(L:Aj)(f:a.eval x=Pn b)(t j)(g:w.heap[b]?=some (.cells L.toArray t j))(d)(hu:P.underlying ty=some d)(hd:d.isRow=true)(e:(P.info? ty).map (·.size)=some L.length)(h:wpList P ops Q rest (a.put c.dst (.agg L.toArray)) w):wpList P ops Q (c::rest) a w:=
 wpList_load_mid O ty x i b 0 f L d (Nh g) hu hd e h
def ry{P w ops o a K Q E}(x:o.guard=none)(d s k r)(C:o.op=.call { callee:=.builtin .copy,args:=#[d,s],argTypes:=#[k,r] })(l m)(hu:P.underlying k=some (.slice l))(z:(P.info? l).map (·.size)=some m)(b off g u i O q)(hd:a.eval d=.slice (some ⟨b,off,none⟩) g u)(D:a.eval s=.slice i O q)(c t)(n:Bk w b c t)(cs)(H:cs.length=Nat.min O g*m)(f:i=none->O=0)(G:∀a,i=some a->∀j v,cs[j]?=some v->w.cell? (a.add j)=some v)(e:off+cs.length<=c.size)(A:∀v∈cs,v.oneCell'=true)(h:∀w',Hid (Bk w' b ((c.toList.take off++(cs++c.toList.drop (off+cs.length))).toArray) t)->Hid (Turned w w' b)->K (a.put o.dst (goInt (Nat.min O g))) w') :
  if Region.wanted o (yielded ops a.tmps)=true then Oper.wp P o a w K Q else E:=by
 have B:Region.wanted o (yielded ops a.tmps)=true:=by simp[Region.wanted,x]
 rw[if_pos B];have p:=b_ n e;have y:=zjp (P:=P) w k r o.type l b off g u i O q m cs hu z H f G (λj hj=>(p j hj).1) (λj hj=>(p j hj).2) A;unfold Oper.wp;simp[execOp,C,resolve,invoke,builtin,hd,D,y,Result.andThen];exact h _ (iT n cs e) (Turned.setCells _ _ _ _)
def zfb{P w}(base t ty e i size)(b:P.underlying t=some (.slice e))(d:P.info? e=some i)(v n xs)(a:w.ownsRow base e size v n xs)(c) :
  (Builtin.append_ #[t,t] ty #[v,.slice none 0 c]).run P w=.ok v w:=by
 rcases a.2 with⟨rfl,rfl⟩|⟨g,cap,f,rfl,_,_,O,_⟩
 .simp[Builtin.append_,run_underlying b,sizeOf,typeInfo,d,Builtin.lenOf,Builtin.firstCells]
 simp[Builtin.append_,run_underlying b,sizeOf,typeInfo,d,Builtin.lenOf,Builtin.firstCells,O,storeCells]
def zir{P}(w base t ty e z size bytes)(s:P.underlying t=some (.slice e))(hinfo:(P.info? e).map (λi=>(i.zero,i.size,i.bytes))=some (some z,size,bytes))(o:z.cells.size=size)(q:0<size)(v n xs)(b:w.ownsRow base e size v n xs)(l m c news)(hl:news.length=m*size)(k:l=none->m=0)(hnews:∀a,l=some a->∀j u,news[j]?=some u->w.cell? (a.add j)=some u)(E:∀u∈news,u.oneCell'=true)(p:n+m<=maxLen)(hbytes:(n+m)*bytes<=140737488355328)(hbase:base<=w.heap.size) :
  ∃ d f w',(Builtin.append_ #[t,t] ty #[v,.slice l m c]).run P w=.ok (.slice d (n+m) f) w'/\w'.ownsRow base e size (.slice d (n+m) f) (n+m) (xs ++ news)/\w.grownBy w' v.ownBlock /\
   ((Value.slice d (n+m) f).ownBlock=v.ownBlock∨(Value.slice d (n+m) f).ownBlock=some w.heap.size):=by
 obtain⟨i,x,J,I,G⟩:=info_parts hinfo;cases l with
 |none=>
  obtain rfl:=k rfl;have r:=zfb (P:=P) (w:=w) base t ty e i size s x v n xs b c;have C:news=[]:=YJ NB;subst C;have O:∃d f,v=.slice d n f:=by
   rcases b.2 with⟨rfl,rfl⟩|⟨g,cap,K,rfl,_⟩
   .exact⟨none,0,rfl⟩
   exact⟨_,_,rfl⟩
  obtain⟨d,f,rfl⟩:=O;exact⟨d,f,w,r,by simpa using b,⟨rfl,rfl,rfl,yA _,λ_ _ _=>rfl⟩,.inl rfl⟩
 |some a=>
  obtain⟨D,w',r,y,H,_,A⟩:=run_append_own_at (P:=P) w base t ty e i z size bytes s x J I G o q v n xs b a m c news hl (hnews a rfl) E p hbytes hbase;have O:∃d f,D=.slice d (n+m) f:=by
   rcases y.2 with⟨rfl,B⟩|⟨g,cap,K,rfl,_⟩
   .exact⟨none,0,by rw[B]⟩
   exact⟨_,_,rfl⟩
  obtain⟨d,f,rfl⟩:=O;exact⟨d,f,w',r,y,H,A⟩
theorem iK{P w}{o:Oper}{a K Q}(s x t)(E:o.op=.call { callee:=.builtin .append,args:=#[s,x],argTypes:=#[t,t] })(base e z size bytes)(C:P.underlying t=some (.slice e))(hinfo:(P.info? e).map (λi=>(i.zero,i.size,i.bytes))=some (some z,size,bytes))(l:z.cells.size=size)(q:0<size)(v n xs)(y:a.eval s=v)(f:w.ownsRow base e size v n xs)(k m c)(r:a.eval x=.slice k m c)(news)(hl:news.length=m*size)(g:k=none->m=0)(hnews:∀a,k=some a->∀j u,news[j]?=some u->w.cell? (a.add j)=some u)(A:∀u∈news,u.oneCell'=true)(p:n+m<=maxLen)(hbytes:(n+m)*bytes<=140737488355328)(hbase:base<=w.heap.size)(h:∀b d w',Hid (w'.ownsRow base e size (.slice b (n+m) d) (n+m) (xs++news))->Hid (w.grownBy w' v.ownBlock)->Hid ((Value.slice b (n+m) d).ownBlock=v.ownBlock∨(Value.slice b (n+m) d).ownBlock=some w.heap.size)->K (a.put o.dst (.slice b (n+m) d)) w'):o.wp P a w K Q:=by
 obtain⟨b,d,w',G,D,B,H⟩:=zir (P:=P) w base t o.type e z size bytes C hinfo l q v n xs f k m c news hl g hnews A p hbytes hbase;unfold Oper.wp execOp;simp only[E,resolve,invoke,builtin,V9,Sem.run_pure,Kk,List.map_toArray,yx,YZ,y,r,G];exact h b d w' D B H
def Dp{P w ops rest o a Q}(O:o.guard=none)(s x t)(H:o.op=.call { callee:=.builtin .append,args:=#[s,x],argTypes:=#[t,t] })(base e z size bytes)(D:P.underlying t=some (.slice e))(hinfo:(P.info? e).map (λi=>(i.zero,i.size,i.bytes))=some (some z,size,bytes))(l:z.cells.size=size)(q:0<size)(v n xs)(y:a.eval s=v)(f:w.ownsRow base e size v n xs)(k m c)(r:a.eval x=.slice k m c)(news)(hl:news.length=m*size)(g:k=none->m=0)(hnews:∀a,k=some a->∀j u,news[j]?=some u->w.cell? (a.add j)=some u)(A:∀u∈news,u.oneCell'=true)(p:n+m<=maxLen)(hbytes:(n+m)*bytes<=140737488355328)(hbase:base<=w.heap.size)(h:∀b d w',Hid (w'.ownsRow base e size (.slice b (n+m) d) (n+m) (xs++news))->Hid (w.grownBy w' v.ownBlock)->Hid ((Value.slice b (n+m) d).ownBlock=v.ownBlock∨(Value.slice b (n+m) d).ownBlock=some w.heap.size)->wpList P ops Q rest (a.put o.dst (.slice b (n+m) d)) w'):wpList P ops Q (o::rest) a w:=
 wpList_plain O λ_ E=>iK s x t H base e z size bytes D hinfo l q v n xs y f k m c r news hl g hnews A p hbytes hbase λb d w' G C B=>E _ _ (h b d w' G C B)
def GG{P w ops o a K Q E}(O:o.guard=none)(s x t)(D:o.op=.call { callee:=.builtin .append,args:=#[s,x],argTypes:=#[t,t] })(base e z size bytes)(B:P.underlying t=some (.slice e))(hinfo:(P.info? e).map (λi=>(i.zero,i.size,i.bytes))=some (some z,size,bytes))(l:z.cells.size=size)(q:0<size)(v n xs)(y:a.eval s=v)(g:w.ownsRow base e size v n xs)(f m c)(r:a.eval x=.slice f m c)(news)(hl:news.length=m*size)(k:f=none->m=0)(hnews:∀a,f=some a->∀j u,news[j]?=some u->w.cell? (a.add j)=some u)(A:∀u∈news,u.oneCell'=true)(p:n+m<=maxLen)(hbytes:(n+m)*bytes<=140737488355328)(hbase:base<=w.heap.size)(h:∀b d w',Hid (w'.ownsRow base e size (.slice b (n+m) d) (n+m) (xs++news))->Hid (w.grownBy w' v.ownBlock)->Hid ((Value.slice b (n+m) d).ownBlock=v.ownBlock∨(Value.slice b (n+m) d).ownBlock=some w.heap.size)->K (a.put o.dst (.slice b (n+m) d)) w') :
  if Region.wanted o (yielded ops a.tmps)=true then Oper.wp P o a w K Q else E:=by
 have C:Region.wanted o (yielded ops a.tmps)=true:=by simp[Region.wanted,O]
 grind[iK]
theorem Ci{w w':Aa}{base e size v n xs}(h:w.ownsRow base e size v n xs)(b:∀g,v.ownBlock=some g->w'.heap[g]?=w.heap[g]?):w'.ownsRow base e size v n xs:=by
 refine⟨h.1,?_⟩;rcases h.2 with h|⟨g,cap,O,rfl,d,f,a⟩
 .exact .inl h
 exact .inr ⟨g,cap,O,rfl,d,(b g rfl).c f,a⟩
def C4{w:Aa}{base base' e size v n xs}(h:w.ownsRow base e size v n xs)(b:base'<=base):w.ownsRow base' e size v n xs:=by
 refine⟨h.1,?_⟩;rcases h.2 with h|⟨g,cap,O,rfl,c,a⟩
 .exact .inl h
 exact .inr ⟨g,cap,O,rfl,qd,a⟩
theorem CG{w:Aa}{base e size a n c xs}(h:w.ownsRow base e size (.slice a n c) n xs){j x}(b:xs[j]?=some x):∃g,a=some ⟨g,0,none⟩/\base<=g/\At w g j x/\w.frozen? ⟨g,j,none⟩=false:=by
 have hj:j<xs.length:=(yf.1 b).1;rcases h.2 with⟨_,i⟩|⟨g,cap,O,d,l,f,o,m,p,k⟩
 .have:=h.1;subst i;simp at this;subst this;simp at hj
 simp only[Y0]at d;obtain⟨rfl,_,_⟩:=d;refine⟨g,rfl,l,?_,by simp[World.frozen?,f]⟩;rw[<-k,YW]at b;split at b
 .simp[World.cell?,f];simpa using b
 cases b
def BH(x y:Value):Prop:=∀g,x.ownBlock=some g->y.ownBlock≠some g
def BT.owns{w g t m N base rs}(h:BT w g t m N rs)(B:base<=g)(y:rs.length=N)(C:N<=maxLen):w.ownsRow base t m (.slice (some ⟨g,0,none⟩) N N) N rs.flatten:=by
 obtain⟨c,J,G,_,q⟩:=h;have I:rs.flatten.length=N*m:=by
  rw[List.length_flatten];have:∀(l:List (Aj)),(∀r∈l,r.length=m)->(l.map List.length).sum=l.length*m:=by
   intro l
   induction l with
   |nil=>intro _;simp
   |cons r l ih=>
    intro b;rw[yx,K9,ih (λx n=>b x (by simp[n])),b r qf,Ya,KU];omega
  rw[this rs (λr b=>by
   obtain⟨i,e,rfl⟩:=Wd b;exact(q i _ (yK e)).1),y]
 refine⟨I,.inr ⟨g,N,c,rfl,B,J,yA _,C,G,?_⟩⟩;rw[yR qe];apply YH;intro j;by_cases hj:j<N*m
 .have O:0<m:=by
   rcases Nat.eq_zero_or_pos m with p|p
   .subst p;simp at hj
   exact p
  have e:j/m<rs.length:=by rw[y];exact Nat.div_lt_of_lt_mul (by rw[Nat.mul_comm];exact hj)
  obtain⟨b,D⟩:=q (j/m) _ (yK e);have v:j%m<rs[j/m].length:=by rw[b];exact Wx _ O
  have s:=D (j%m) _ (yK v);rw[Nat.div_add_mod' j m]at s;rw[Yn,s];have key:∀(l:List (Aj))(k:Nat),(∀r∈l,r.length=m)->∀(d:k/m<l.length)(K:k%m<(l[k/m]).length),l.flatten[k]?=some ((l[k/m])[k%m]):=by
   intro l
   induction l with
   |nil=>intro k _ d;simp at d
   |cons r l ih=>
    intro k a d K;have H:r.length=m:=a r qf;rw[List.flatten_cons];by_cases u:k<m
    .have f:k/m=0:=Nat.div_eq_of_lt u;have o:k%m=k:=Nat.mod_eq_of_lt u;rw[yr qd];simp only[f,o,List.getElem_cons_zero];rw[yK qd]
    have f:k/m=(k-m)/m+1:=by
     have:=Nat.add_div_right (k-m) O;rw[Nat.sub_add_cancel qd]at this;exact this
    have o:k%m=(k-m)%m:=by
     have:=Nat.add_mod_right (k-m) m;rw[Nat.sub_add_cancel qd]at this;exact this
    rw[yB qd,H];have A:(k-m)/m<l.length:=by
     rw[f]at d;simpa using d
    have:=ih (k-m) (λx n=>a x (by simp[n])) A (by rw[a _ (by simp[YX])];exact Wx _ O);rw[this];simp only[f,o,List.getElem_cons_succ]
  exact(key rs j (λr b=>by
   obtain⟨i,E,rfl⟩:=Wd b;exact(q i _ (yK E)).1) e v).z
 rw[YN qe,YN qd]
def Ay(xs:As):Aj:=xs.map (Value.int .i64)
structure JP(w:Aa) (base:Nat) (v:Value) (n:Nat) (xss:List (As)) (vs:Aj):Prop where
 num:n=xss.length
 len:vs.length=xss.length
 aa:w.ownsRow base 30 1 v n vs
 V:∀(i:Nat)(xs:As)(x:Value),xss[i]?=some xs->vs[i]?=some x->(∃a c,x=.slice a xs.length c)/\w.ownsRow base 3 1 x xs.length (Ay xs)
 apart:∀x∈vs,BH v x
 bj:vs.Pairwise BH
def UD(v:Value)(vs:Aj)(g:Nat):Prop:=v.ownBlock=some g∨∃x∈vs,x.ownBlock=some g
def JP.bN{w base v n xss vs}(h:JP w base v n xss vs){x}(c:x∈vs):∃xs∈xss,w.ownsRow base 3 1 x xs.length (Ay xs):=by
 obtain⟨i,a,rfl⟩:=Wd c;have b:i<xss.length:=by rw[<-h.len];exact a
 exact⟨xss[i],YX b,(h.V i _ _ (yK b) (yK a)).2⟩
def JP.range{w base v n xss vs}(h:JP w base v n xss vs){g}(a:UD v vs g):base<=g/\g<w.heap.size:=by
 rcases a with a|⟨x,b,a⟩
 .exact h.aa.lt g a
 obtain⟨xs,_,c⟩:=h.bN b;exact c.lt g a
def JP.kept{w w' base v n xss vs}(h:JP w base v n xss vs)(c:∀g,UD v vs g->w'.heap[g]?=w.heap[g]?):JP w' base v n xss vs:=
 ⟨h.num,h.len,Ci h.aa (λg a=>c g (.inl a)),λi f x d b=>⟨(h.V i f x d b).1,Ci (h.V i f x d b).2 (λg a=>c g (.inr ⟨x,yd b,a⟩))⟩,h.apart,h.bj⟩
theorem JP.e{w w' base v n xss vs}(h:JP w base v n xss vs)(b:Bw w w'):JP w' base v n xss vs:=
 h.kept λg a=>b.block g (h.range a).2
def JP.nil(w base):JP w base (.slice none 0 0) 0 [] []:=
 ⟨rfl,rfl,yJ _ _ _ _,λi f x hf=>Qh,λx hx=>qF,List.Pairwise.nil⟩
def CJ.owns{w base n a c xs}(h:w.ownsRow base 3 1 (.slice a n c) n (Ay xs)):CJ none w a xs:=by
 intro i s b;have d:(Ay xs)[i]?=some (I6 s):=by simp[Ay,b]
 obtain⟨g,rfl,_,h0,_⟩:=CG h d;refine⟨g,0,[I6 s],rfl,Qb.ac _ _ _,rfl,?_,rfl⟩;exact sX
def UG(w:Aa)(a:Af)(xss:List (As)):Prop:=
 ∀(i:Nat)(xs:As),xss[i]?=some xs->∃b o a' c',a=some ⟨b,o,none⟩/\w.cell? ⟨b,o+i,none⟩=some (.slice a' xs.length c')/\CJ none w a' xs
theorem UG.e{w w' a xss}(h:UG w a xss)(c:Bw w w'):UG w' a xss:=by
 intro i xs f;obtain⟨b,o,k,g,e,j,d⟩:=h i xs f;exact⟨b,o,k,g,e,zab c j,d.e c⟩
def JP.at{w base a n c xss vs}(h:JP w base (.slice a n c) n xss vs):UG w a xss:=by
 intro i xs b;have j:i<xss.length:=(yf.1 b).1;have hv:vs[i]?=some (vs[i]'(by rw[h.len];exact j)):=yK _;obtain⟨⟨f,k,e⟩,d⟩:=h.V i xs _ b hv;obtain⟨g,rfl,_,O,_⟩:=CG h.aa hv;rw[e]at O d;exact⟨g,0,f,k,rfl,OJ,CJ.owns d⟩
theorem A7{w:Aa}{base e m v n xs}(h:w.ownsRow base e m v n xs){k}(a:v.ownBlock=some k):∃c,Bk w k c e:=by
 rcases h.2 with⟨rfl,_⟩|⟨g,cap,O,rfl,_,b,_⟩
 .simp[Value.ownBlock]at a
 simp[Value.ownBlock]at a;subst a;exact⟨O,b⟩
theorem Cw{w:Aa}{k:Nat}{c a t t' f O}(h:w.heap[k]?=some (.cells c t f))(d:w.heap[k]?=some (.cells a t' O))(b:t≠t'):False:=by grind
def BF{P:Aa->Prop}{a o}(h:∀wt,Bw a wt->wt.heap[a.heap.size]?=some o->P wt):P (a.alloc o):=h _ Ar (heap_alloc_new _ _)
def JZ{w w':Aa}{base e t m v n xs row}(h:w.ownsRow base e m v n xs)(f:w.grownBy w' row)(d:∀k,row=some k->∃c,Bk w k c t)(a:t≠e):w'.ownsRow base e m v n xs:=
 Ci h λk b=>f.block k (h.lt k b).2 (λe=>by
  obtain⟨c,g⟩:=d k e.z
  obtain⟨i,O⟩:=A7 h b
  exact Cw g O a)
def Is{w:Aa}{base b o e t m v n xs x c i}(h:w.ownsRow base e m v n xs)(d:w.heap[b]?=some (.cells c t i))(a:t≠e):(w.setCell ⟨b,o,none⟩ x).ownsRow base e m v n xs:=
 Ci h λk f=>yD _ _ _ _ (λe=>by
  obtain⟨j,O⟩:=A7 h f
  have g:k=b:=e
  subst g
  exact Cw d O a)
def E5{w w':Aa}{b:Nat}{t t' c d row}(h:w.heap[b]?=some (.cells c t d))(i:w.grownBy w' row)(f:∀k,row=some k->∃c,Bk w k c t')(a:t'≠t):w'.heap[b]?=some (.cells c t d):=
 (i.block b (Ap h) (λe=>by
  obtain⟨j,g⟩:=f b e.z
  exact Cw g h a)).c h
def Hf{α:Type}{cells m}(a:∀x,(cells x).length=m):∀(xs:List α)(i:Nat)(x:α)(j:Nat)(u:Value),xs[i]?=some x->(cells x)[j]?=some u->(xs.flatMap cells)[i*m+j]?=some u
 |[],i,x,j,u,h,_=>by simp at h
 |y::r,0,x,j,u,h,hj=>by
  simp at h
  subst h
  have hl:j<(cells y).length:=(yf.1 hj).1
  rw[yX,V8,Yj,yr hl]
  exact hj
 |y::r,i+1,x,j,u,h,hj=>by
  rw[yC]at h
  have:=Hf a r i x j u h hj
  have e:(i+1)*m=i*m+m:=KU i m
  rw[yX,yB (by rw[a];omega),show(i+1)*m+j-(cells y).length=i*m+j by rw[a];omega]
  exact this
structure BU(b:AD) (w w':Aa):Prop where
 rest:Below 0 w w'
 block:∀g,g<w.heap.size->b≠some g->w'.heap[g]?=w.heap[g]?
def BU.refl(b w):BU b w w:=⟨Au,λ_ _ _=>rfl⟩
def BU.c{b u v w}(h:BU b u v)(k:BU b v w):BU b u w:=
 ⟨h.rest.c k.rest,λg d a=>(k.block g (yg d h.rest.size) a).c (h.block g d a)⟩
def BU.u{b u v}(h:Bw u v):BU b u v:=⟨h.j (yn _),λg a _=>h.block g a⟩
def BU.set{w g o}(x):BU (some g) w (w.setCell ⟨g,o,none⟩ x):=
 ⟨Au.setCell (yn _) _,λh _ a=>yD _ _ _ _ (λe=>a Ij)⟩
theorem BU.e{b w w' B}(h:BU b w w')(c:B<=w.heap.size)(a:∀g,b=some g->B<=g):Below B w w':=
 ⟨h.rest.os,h.rest.tape,h.rest.output,h.rest.size,λk d=>h.block k qd (λe=>by have:=a k e;omega)⟩
def jw:(prog.info? 187).map (λi=>(i.zero,i.size,i.bytes))=some (some (.agg #[I6 0,I6 0,.string ByteArray.empty]),3,32):=qg
def ri{P}(t e z)(size bytes:Nat)(f:P.underlying t=some (.slice e))(hinfo:(P.info? e).map (λi=>(i.zero,i.size,i.bytes))=some (some (.agg z),size,bytes))(n)(k:bytes*n<=281474976710656)(j:n<=9223372036854775807)(w) :
  (Instr.makeSlice t (I6 (n:Int)) (I6 (n:Int))).run P w=.ok (.slice (some ⟨w.heap.size,0,none⟩) n n) (w.alloc (.cells (madeCells z (n*size)) e)):=by
 obtain⟨i,g,d,c,O⟩:=info_parts hinfo;have a:(i.bytes:Int)*(n:Int)<=281474976710656:=by
  rw[O];have h:((bytes*n:Nat):Int)<=281474976710656:=qd;rwa [Int.natCast_mul]at h
 have b:=run_make (P:=P) w t e i _ f g d .i64 .i64 n n qd (Wh _) a qd;simp only[YG,c,Value.cells]at b;exact b

structure Tt where
 aj:Int
 op:Int
 other:Int
 val:V
abbrev Dn:=List Tt
def Tt.R(_:Aa)(r:Aj)(x:Tt):Prop:=r=[.int .i64 x.aj,.int .i64 x.op,.int .i64 x.other,.int .i64 x.val.w,.int .i64 x.val.num,.string x.val.O]
abbrev F7(q:AD)(w:Aa)(a:Af)(xs:Dn):Prop:=CI Tt.R q 320 6 w a xs
theorem F7.e{q w w' a xs}(h:F7 q w a xs)(b:Bw w w'):F7 q w' a xs:=CI.e h (λ_ _ _ h=>h) b
def F7.ac{q w a xs}(h:F7 q w a xs):F7 none w a xs:=CI.bi h (λb _=>Qb.ac _ _ b) (λ_ _ _ h=>h)
def F7.get{q w a xs i x}(h:F7 q w a xs)(hi:xs[i]?=some x):∃b o,a=some ⟨b,o,none⟩/\Qb q w 320 b/\At w b (o+i*6) (I6 x.aj)/\At w b (o+i*6+1) (I6 x.op)/\At w b (o+i*6+2) (I6 x.other)/\At w b (o+i*6+3) (I6 x.val.w)/\At w b (o+i*6+4) (I6 x.val.num)/\At w b (o+i*6+5) (.string x.val.O):=by
 exact sw
structure Al where
 E:ByteArray
 al:Int
 y:Dn
abbrev Dm:=List Al
def Al.R(q:AD)(w:Aa)(r:Aj)(x:Al):Prop:=∃a_tests c_tests,r=[.string x.E,.int .i64 x.al,.slice a_tests x.y.length c_tests]/\F7 q w a_tests x.y
abbrev Ra(q:AD)(w:Aa)(a:Af)(xs:Dm):Prop:=CI (Al.R q) q 245 3 w a xs
theorem Ra.e{q w w' a xs}(h:Ra q w a xs)(b:Bw w w'):Ra q w' a xs:=CI.e h (λ_ _ _⟨a_tests,c_tests,e,O⟩=>⟨a_tests,c_tests,e,O.e b⟩) b
def Ra.ac{q w a xs}(h:Ra q w a xs):Ra none w a xs:=CI.bi h (λb _=>Qb.ac _ _ b) (λ_ _ _⟨a_tests,c_tests,e,O⟩=>⟨a_tests,c_tests,e,O.ac⟩)
def OV(v o:V):Bool:=v.w==o.w&&(v.num==o.num&&decide (v.O.toList=o.O.toList))
def Lb(v o:V):Bool:=v.w==0&&o.w==0
def Bv(op:Int)(v o:V):Bool:=
 if op==1 then OV v o
 else if op==2 then !OV v o
 else if op==3 then Lb v o&&decide (v.num<o.num)
 else if op==4 then Lb v o&&decide (o.num<v.num)
 else if op==5 then Lb v o&&decide (v.num<=o.num)
 else if op==6 then Lb v o&&decide (o.num<=v.num)
 else false
def uQ(h:P:=by
 cases k1:(v.w==0)<;>cases k2:(o.w==0)
 all_goals
  go_enter func173,ntmps173;go_wp2
 all_goals go_ret
 all_goals exact⟨Ba (by simp[Bv,OV, *]),Br⟩
 ):=h
def Xe(h:P:=by
 cases k1:(v.w==0)<;>cases k2:(o.w==0)
 all_goals
  go_enter func173,ntmps173;go_wp2
 all_goals go_ret
 all_goals exact⟨Ba (by simp[Bv,Lb, *]),Br⟩
 ):=h
def Z8(v o a w) :
  Ca 173 #[.agg #[I6 v.w,I6 v.num,.string v.O],I6 a,.agg #[I6 o.w,I6 o.num,.string o.O]] w λe w'=>
   e=.returned (.bool (Bv a v o))/\Bw w w':=by
 by_cases c:a=1
 .subst c;exact uQ
 by_cases d:a=2
 .subst d;exact uQ
 by_cases g:a=3
 .subst g;exact Xe
 by_cases i:a=4
 .subst i;exact Xe
 by_cases b:a=5
 .subst b;exact Xe
 by_cases f:a=6
 .subst f;exact Xe
 cases k1:(v.w==0)<;>cases k2:(o.w==0)
 all_goals
  go_enter func173,ntmps173;go_wp2
 all_goals go_ret
 all_goals exact⟨Ba (by simp[Bv, *]),Br⟩
def tk{P:Program}{l:List Oper}{Q:Exit->Act->Aa->Prop}{md:Region.Mode}{S:Aa->Prop}(i:Nat){oi:Oper}{v:Value}{af:Nat}{O:Array Bool}{a:Act}{w:Aa}(hS:S w)
  (h:wpAnyH P md l.toArray (NoPanic Q) S af (O.setIfInBounds i true) (a.put oi.dst v) w) (hi:l[i]?=some oi:=by rfl)
  (hs:Region.noSelect l.toArray=true:=by kernel_rfl) (hf:Region.free md l.toArray O i=true:=by kernel_rfl) (hr:(Region.ready md l.toArray O).contains i=true:=by kernel_rfl)
  (hw:Region.wanted oi (yielded l.toArray a.tmps)=true:=by rfl) (hy:∀w,S w->(execOp a.eval oi).run P w=.ok (.value v) w:=by intro w ah;(try dsimp only at ah);go_simp;try with_reducible rfl):wpAnyH P md l.toArray (NoPanic Q) S (af+1) O a w:=
 wpAnyH_take (yj.c hi) hs hf hr (λ_ _ _ h=>h) (.inl ⟨hw,hy⟩) hS h
def tn{P:Program}{l:List Oper}{Q:Exit->Act->Aa->Prop}{md:Region.Mode}{S:Aa->Prop}(i:Nat){oi:Oper}{af:Nat}{O:Array Bool}{a:Act}{w:Aa}(hS:S w)
  (h:wpAnyH P md l.toArray (NoPanic Q) S af (O.setIfInBounds i true) (a.put oi.dst undef) w) (hi:l[i]?=some oi:=by rfl)
  (hs:Region.noSelect l.toArray=true:=by kernel_rfl) (hf:Region.free md l.toArray O i=true:=by kernel_rfl) (hr:(Region.ready md l.toArray O).contains i=true:=by kernel_rfl)
  (hw:Region.wanted oi (yielded l.toArray a.tmps)=false:=by rfl):wpAnyH P md l.toArray (NoPanic Q) S (af+1) O a w:=
 wpAnyH_take (yj.c hi) hs hf hr (λ_ _ _ h=>h) (.inr ⟨hw,rfl⟩) hS h
def r1{P:Program}{l:List Oper}{Q:Exit->Act->Aa->Prop}{md:Region.Mode}{S:Aa->Prop}(i:Nat){o:Oper}{af:Nat}{O:Array Bool}{a:Act}{w:Aa}
  (h:∀K':Act->Aa->Prop,Shut (∀a w,S w->(S w->wpAnyH P md l.toArray Q S af (O.setIfInBounds i true) a w)->K' a w)->if Region.wanted o (yielded l.toArray a.tmps)=true then Oper.wp P o a w K' Q else K' (a.put o.dst undef) w)
  (hi:l[i]?=some o:=by rfl) (hr:Region.ready md l.toArray O=[i]:=by kernel_rfl):wpAnyH P md l.toArray Q S (af+1) O a w:=
 wpAnyH_ready hr qf (y9 (yj.c hi) h Yd)
def r2{P:Program}{l:List Oper}{Q:Exit->Act->Aa->Prop}{md:Region.Mode}{S:Aa->Prop}(i j:Nat){o o':Oper}{af:Nat}{O:Array Bool}{a:Act}{w:Aa}
  (h:∀K':Act->Aa->Prop,Shut (∀a w,S w->(S w->wpAnyH P md l.toArray Q S af (O.setIfInBounds i true) a w)->K' a w)->if Region.wanted o (yielded l.toArray a.tmps)=true then Oper.wp P o a w K' Q else K' (a.put o.dst undef) w)
  (h':∀K':Act->Aa->Prop,Shut (∀a w,S w->(S w->wpAnyH P md l.toArray Q S af (O.setIfInBounds j true) a w)->K' a w)->if Region.wanted o' (yielded l.toArray a.tmps)=true then Oper.wp P o' a w K' Q else K' (a.put o'.dst undef) w)
  (hi:l[i]?=some o:=by rfl) (hj:l[j]?=some o':=by rfl) (hr:Region.ready md l.toArray O=[i,j]:=by kernel_rfl):wpAnyH P md l.toArray Q S (af+1) O a w:=
 wpAnyH_ready hr qf (y9 (yj.c hi) h (y9 (yj.c hj) h' Yd))
def pA(l:Aj)(d)(t:Nat)(v):({ tmps:=l.toArray,defers:=d }:Act).put (some t) v={ tmps:=(l.set t v).toArray,defers:=d }:=by simp[Act.put]
def pN(a:Act)(v):a.put none v=a:=rfl
def pZ{α:Type}(x v:α)(l):(x::l).set 0 v=v::l:=rfl
def pS{α:Type}(x v:α)(l n):(x::l).set (n+1) v=x::l.set n v:=rfl
def pQ:(∀(l:Aj)d(t:Nat)v,({ tmps:=l.toArray,defers:=d }:Act).put (some t) v={ tmps:=(l.set t v).toArray,defers:=d })/\(∀(a:Act)v,a.put none v=a)/\(∀{α:Type}(x v:α)l,(x::l).set 0 v=v::l)/\∀{α:Type}(x v:α)l n,(x::l).set (n+1) v=x::l.set n v:=⟨pA,pN,pZ,pS⟩
def Rg(_i _j:Nat):Prop:=True
def Rg.nx{i j}(_t:Rg i j):Rg (i+1) j:=trivial
def Wr(Q:Prop):Prop:=Q
def Wr.o{Q}(h:Wr Q):Q:=h
def EF{P:Program}{l:List Oper}{Q:Exit->Act->Aa->Prop}{md:Region.Mode}{S:Aa->Prop}{i j:Nat}(_t:Rg i j){oi:Oper}{v:Value}{af:Nat}{O:Array Bool}{a:Act}{w:Aa}(hS:S w)
  (h:wpAnyH P md l.toArray (NoPanic Q) S af (O.setIfInBounds i true) (a.put oi.dst v) w) (_hij:decide (i<j)=true:=by rfl) (hi:l[i]?=some oi:=by rfl)
  (hs:Region.noSelect l.toArray=true:=by kernel_rfl) (hf:Region.free md l.toArray O i=true:=by kernel_rfl) (hr:(Region.ready md l.toArray O).contains i=true:=by kernel_rfl)
  (hw:Region.wanted oi (yielded l.toArray a.tmps)=true:=by rfl) (hy:∀w,S w->(execOp a.eval oi).run P w=.ok (.value v) w:=by intro w ah;(try dsimp only at ah);go_simp;try with_reducible rfl):wpAnyH P md l.toArray (NoPanic Q) S (af+1) O a w:=
 tk i hS h hi hs hf hr hw hy
def EE{P:Program}{l:List Oper}{Q:Exit->Act->Aa->Prop}{md:Region.Mode}{S:Aa->Prop}{i j:Nat}(_t:Rg i j){oi:Oper}{af:Nat}{O:Array Bool}{a:Act}{w:Aa}(hS:S w)
  (h:wpAnyH P md l.toArray (NoPanic Q) S af (O.setIfInBounds i true) (a.put oi.dst undef) w) (_hij:decide (i<j)=true:=by rfl) (hi:l[i]?=some oi:=by rfl)
  (hs:Region.noSelect l.toArray=true:=by kernel_rfl) (hf:Region.free md l.toArray O i=true:=by kernel_rfl) (hr:(Region.ready md l.toArray O).contains i=true:=by kernel_rfl)
  (hw:Region.wanted oi (yielded l.toArray a.tmps)=false:=by rfl):wpAnyH P md l.toArray (NoPanic Q) S (af+1) O a w:=
 tn i hS h hi hs hf hr hw
def sr(i j:Nat){P Q:Prop}(k:Q)(h:Rg i j->Wr Q->P:=by intro O hQ;(first|((first|refine EF O hHeld ?_|refine EE O hHeld ?_);(try simp only[pQ]);replace O:=O.nx;(try simp only[Nat.reduceAdd]at O);(first|((first|refine EF O hHeld ?_|refine EE O hHeld ?_);(try simp only[pQ]);replace O:=O.nx;(try simp only[Nat.reduceAdd]at O);(first|((first|refine EF O hHeld ?_|refine EE O hHeld ?_);(try simp only[pQ]);replace O:=O.nx;(try simp only[Nat.reduceAdd]at O);(first|((first|refine EF O hHeld ?_|refine EE O hHeld ?_);(try simp only[pQ]);replace O:=O.nx;(try simp only[Nat.reduceAdd]at O);(first|((first|refine EF O hHeld ?_|refine EE O hHeld ?_);(try simp only[pQ]);replace O:=O.nx;(try simp only[Nat.reduceAdd]at O);(first|((first|refine EF O hHeld ?_|refine EE O hHeld ?_);(try simp only[pQ]);replace O:=O.nx;(try simp only[Nat.reduceAdd]at O);(first|((first|refine EF O hHeld ?_|refine EE O hHeld ?_);(try simp only[pQ]);replace O:=O.nx;(try simp only[Nat.reduceAdd]at O);(first|((first|refine EF O hHeld ?_|refine EE O hHeld ?_);(try simp only[pQ]);replace O:=O.nx;(try simp only[Nat.reduceAdd]at O);(first|((first|refine EF O hHeld ?_|refine EE O hHeld ?_);(try simp only[pQ]);replace O:=O.nx;(try simp only[Nat.reduceAdd]at O);(first|((first|refine EF O hHeld ?_|refine EE O hHeld ?_);(try simp only[pQ]);replace O:=O.nx;(try simp only[Nat.reduceAdd]at O);(first|((first|refine EF O hHeld ?_|refine EE O hHeld ?_);(try simp only[pQ]);replace O:=O.nx;(try simp only[Nat.reduceAdd]at O);(first|((first|refine EF O hHeld ?_|refine EE O hHeld ?_);(try simp only[pQ]);replace O:=O.nx;(try simp only[Nat.reduceAdd]at O);(first|((first|refine EF O hHeld ?_|refine EE O hHeld ?_);(try simp only[pQ]);replace O:=O.nx;(try simp only[Nat.reduceAdd]at O);(first|((first|refine EF O hHeld ?_|refine EE O hHeld ?_);(try simp only[pQ]);replace O:=O.nx;(try simp only[Nat.reduceAdd]at O);(first|((first|refine EF O hHeld ?_|refine EE O hHeld ?_);(try simp only[pQ]);replace O:=O.nx;(try simp only[Nat.reduceAdd]at O);(first|((first|refine EF O hHeld ?_|refine EE O hHeld ?_);(try simp only[pQ]);replace O:=O.nx;(try simp only[Nat.reduceAdd]at O);(first|((first|refine EF O hHeld ?_|refine EE O hHeld ?_);(try simp only[pQ]);replace O:=O.nx;(try simp only[Nat.reduceAdd]at O);(first|((first|refine EF O hHeld ?_|refine EE O hHeld ?_);(try simp only[pQ]);replace O:=O.nx;(try simp only[Nat.reduceAdd]at O);(first|((first|refine EF O hHeld ?_|refine EE O hHeld ?_);(try simp only[pQ]);replace O:=O.nx;(try simp only[Nat.reduceAdd]at O);(first|((first|refine EF O hHeld ?_|refine EE O hHeld ?_);(try simp only[pQ]);replace O:=O.nx;(try simp only[Nat.reduceAdd]at O);(first|((first|refine EF O hHeld ?_|refine EE O hHeld ?_);(try simp only[pQ]);replace O:=O.nx;(try simp only[Nat.reduceAdd]at O);(first|((first|refine EF O hHeld ?_|refine EE O hHeld ?_);(try simp only[pQ]);replace O:=O.nx;(try simp only[Nat.reduceAdd]at O);(first|((first|refine EF O hHeld ?_|refine EE O hHeld ?_);(try simp only[pQ]);replace O:=O.nx;(try simp only[Nat.reduceAdd]at O);(first|((first|refine EF O hHeld ?_|refine EE O hHeld ?_);(try simp only[pQ]);replace O:=O.nx;(try simp only[Nat.reduceAdd]at O);(first|((first|refine EF O hHeld ?_|refine EE O hHeld ?_);(try simp only[pQ]);replace O:=O.nx;(try simp only[Nat.reduceAdd]at O);(first|((first|refine EF O hHeld ?_|refine EE O hHeld ?_);(try simp only[pQ]);replace O:=O.nx;(try simp only[Nat.reduceAdd]at O);(first|((first|refine EF O hHeld ?_|refine EE O hHeld ?_);(try simp only[pQ]);replace O:=O.nx;(try simp only[Nat.reduceAdd]at O);(first|((first|refine EF O hHeld ?_|refine EE O hHeld ?_);(try simp only[pQ]);replace O:=O.nx;(try simp only[Nat.reduceAdd]at O);(first|((first|refine EF O hHeld ?_|refine EE O hHeld ?_);(try simp only[pQ]);replace O:=O.nx;(try simp only[Nat.reduceAdd]at O);(first|((first|refine EF O hHeld ?_|refine EE O hHeld ?_);(try simp only[pQ]);replace O:=O.nx;(try simp only[Nat.reduceAdd]at O);(first|((first|refine EF O hHeld ?_|refine EE O hHeld ?_);(try simp only[pQ]);replace O:=O.nx;(try simp only[Nat.reduceAdd]at O);(first|((first|refine EF O hHeld ?_|refine EE O hHeld ?_);(try simp only[pQ]);replace O:=O.nx;(try simp only[Nat.reduceAdd]at O);(first|((first|refine EF O hHeld ?_|refine EE O hHeld ?_);(try simp only[pQ]);replace O:=O.nx;(try simp only[Nat.reduceAdd]at O);(first|((first|refine EF O hHeld ?_|refine EE O hHeld ?_);(try simp only[pQ]);replace O:=O.nx;(try simp only[Nat.reduceAdd]at O);(first|((first|refine EF O hHeld ?_|refine EE O hHeld ?_);(try simp only[pQ]);replace O:=O.nx;(try simp only[Nat.reduceAdd]at O);(first|((first|refine EF O hHeld ?_|refine EE O hHeld ?_);(try simp only[pQ]);replace O:=O.nx;(try simp only[Nat.reduceAdd]at O))|skip))|skip))|skip))|skip))|skip))|skip))|skip))|skip))|skip))|skip))|skip))|skip))|skip))|skip))|skip))|skip))|skip))|skip))|skip))|skip))|skip))|skip))|skip))|skip))|skip))|skip))|skip))|skip))|skip))|skip))|skip))|skip))|skip))|skip))|skip))|skip);exact hQ.o):P:=h trivial k
structure Bd where
 F:ByteArray
 val:V
abbrev BA:=List Bd
def Bd.R(_:Aa)(r:Aj)(x:Bd):Prop:=r=[.string x.F,.int .i64 x.val.w,.int .i64 x.val.num,.string x.val.O]
abbrev GL(q:AD)(w:Aa)(a:Af)(xs:BA):Prop:=CI Bd.R q 367 4 w a xs
theorem GL.e{q w w' a xs}(h:GL q w a xs)(b:Bw w w'):GL q w' a xs:=CI.e h (λ_ _ _ h=>h) b
def GL.ac{q w a xs}(h:GL q w a xs):GL none w a xs:=CI.bi h (λb _=>Qb.ac _ _ b) (λ_ _ _ h=>h)
def GL.get{q w a xs i x}(h:GL q w a xs)(d:xs[i]?=some x):∃b o,a=some ⟨b,o,none⟩/\Qb q w 367 b/\At w b (o+i*4) (.string x.F)/\At w b (o+i*4+1) (I6 x.val.w)/\At w b (o+i*4+2) (I6 x.val.num)/\At w b (o+i*4+3) (.string x.val.O):=by
 obtain⟨b,o,r,f,g,j,c,e⟩:=h i x d;subst e;exact⟨b,o,f,g,c 0 _ rfl,c 1 _ rfl,c 2 _ rfl,c 3 _ rfl⟩
def DM(bs:BA)(s:ByteArray):Option V:=
 match bs with
 |[]=>none
 |b::r=>if b.F=s then some b.val else DM r s
def PF(b r s):DM (b::r) s=if b.F=s then some b.val else DM r s:=rfl
def P6:V:=(0,0,⟨#[]⟩)
def Er(out:BA)(t:Tm)(v:V):Option (BA):=
 if t.w=1 then(if v=t.val then some out else none)
 else if t.w=2 then(match DM out t.F with|some old=>if old=v then some out else none|none=>some (out++[⟨t.F,v⟩]))
 else if t.w=3 then(if Bv t.op v (if t.F=⟨#[]⟩ then t.val else(DM out t.F).getD P6)=true then some out else none)
 else some out
def Fr:BA->A3->AH->Option (BA)
 |out,[],_=>some out
 |out,_::_,[]=>some out
 |out,t::ts,v::vs=>(match Er out t v with|some o=>Fr o ts vs|none=>none)
def Bu(p:Pt)(f:F)(bs:BA):Option (BA):=if p.E=f.E/\p.s.length=f.v.length then Fr bs p.s f.v else none
def Vy(out:BA)(t:Tm)(ts:A3)(v:V)(vs:AH):Fr out (t::ts) (v::vs)=(match Er out t v with|some o=>Fr o ts vs|none=>none):=rfl
def zqx{out o t ts v vs}(h:Er out t v=some o):Fr out (t::ts) (v::vs)=Fr o ts vs:=by rw[Vy,h]
def zrl{out t ts v vs}(h:Er out t v=none):Fr out (t::ts) (v::vs)=none:=by rw[Vy,h]
def Xc(h:P:=by injection h with h;subst h;omega):=h
def ww{out o t v}(h:Er out t v=some o):o.length<=out.length+1:=by
 unfold Er at h;split at h
 .split at h
  .exact Xc
  cases h
 split at h
 .split at h
  .split at h
   .exact Xc
   cases h
  injection h with h;subst h;simp
 split at h
 .by_cases a:Bv t.op v (if t.F=⟨#[]⟩ then t.val else(DM out t.F).getD P6)=true
  .rw[if_pos a]at h;exact Xc
  rw[if_neg a]at h;cases h
 exact Xc
structure Pm where
 G:As
 az:BA
abbrev Cr:=List Pm
def DB(p:Pt)(x:Pm):Ab->Cr
 |[]=>[]
 |f::r=>(match Bu p f x.az with|some bs=>[⟨x.G++[f.tag],bs⟩]|none=>[])++DB p x r
def I7(p:Pt)(fs:Ab)(x:Pm):Cr:=if p.neg=true then(if(DB p x fs).length=0 then [x] else []) else DB p x fs
def Eo(p:Pt)(fs:Ab)(xs:Cr):Cr:=xs.flatMap (I7 p fs)
def BC:Bi->Ab->Cr->Nat->Cr × Nat
 |[],_,xs,n=>(xs,n)
 |p::ps,fs,xs,n=>BC ps fs (Eo p fs xs) (n+(Eo p fs xs).length)
theorem Vx(p:Pt)(x:Pm)(f:F):∀l:Ab,DB p x (l++[f])=DB p x l++(match Bu p f x.az with|some a=>[⟨x.G++[f.tag],a⟩]|none=>[]):=by intro l;induction l<;>grind[Bu,DB]
theorem ZT(p x):∀l:Ab,(DB p x l).length<=l.length:=by intro l;induction l<;>grind[DB,Bu]
def zpi(p fs x):(I7 p fs x).length<=fs.length+1:=by grind[DB,I7,ZT]
def tB(h:P:=by
 cases k1:(v.w==0)<;>cases k2:(o.w==0)
 all_goals
  go_enter func239,ntmps239;go_wp2
 all_goals go_ret
 all_goals exact⟨Ba (by simp[Bv,OV, *]),Br⟩
 ):=h
def Xd(h:P:=by
 cases k1:(v.w==0)<;>cases k2:(o.w==0)
 all_goals
  go_enter func239,ntmps239;go_wp2
 all_goals go_ret
 all_goals exact⟨Ba (by simp[Bv,Lb, *]),Br⟩
 ):=h
def VT(v o a w) :
  Ca 239 #[I6 a,.agg #[I6 v.w,I6 v.num,.string v.O],.agg #[I6 o.w,I6 o.num,.string o.O]] w λe w'=>
   e=.returned (.bool (Bv a v o))/\Bw w w':=by
 by_cases c:a=1
 .subst c;exact tB
 by_cases d:a=2
 .subst d;exact tB
 by_cases g:a=3
 .subst g;exact Xd
 by_cases i:a=4
 .subst i;exact Xd
 by_cases b:a=5
 .subst b;exact Xd
 by_cases f:a=6
 .subst f;exact Xd
 cases k1:(v.w==0)<;>cases k2:(o.w==0)
 all_goals
  go_enter func239,ntmps239;go_wp2
 all_goals go_ret
 all_goals exact⟨Ba (by simp[Bv, *]),Br⟩
def PT(v w) :
  Ca 267 #[.agg #[I6 v.w,I6 v.num,.string v.O]] w λe w'=>
   e=.returned (.bool (E4 v))/\Bw w w':=by
 go_enter func267,ntmps267;go_wp2
 all_goals go_ret
 all_goals exact⟨Ba (by simp[E4,DA, *]),Ar⟩
def zik(t w)(m:t.le maxLen) :
  Ca 266 #[.agg #[I6 t.w,I6 t.op,.string t.F,I6 t.val.w,I6 t.val.num,.string t.val.O]] w λe w'=>
   e=.returned (.bool (DC t))/\Bw w w':=by
 obtain ⟨c,l⟩:=m;obtain ⟨G⟩:Nonempty (Hid (DC t=if t.w==0 then t.op==0 && (DA t.F && E4 t.val)
  else if t.w==1 then t.op==0&&(DA t.F&&Dk t.val)
  else if t.w==2 then t.op==0&&(AP t.F.data.toList&&E4 t.val)
  else if t.w==3 then decide (1<=t.op)&&(decide (t.op<=6)&&((DA t.F&&Dk t.val)||(AP t.F.data.toList&&E4 t.val)))
  else false)):=⟨rfl⟩
 unfold DA at G;by_cases k:t.w=0
 .have O:(t.w==0)=true:=by simp[k]
  cases h1:(t.op==0)<;>cases b:t.F.toList.isEmpty<;>cases h3:E4 t.val
  all_goals
   go_enter func266,ntmps266;go_wp2_with (go_at_call 267;refine(PT t.val _).rtn λw' a=>?_)
  all_goals try go_ret
  all_goals first
   |exact⟨Ba (by rw[G.o,O,h1,b,h3];rfl),Ar⟩
   |exact⟨Ba (by rw[G.o,O,h1,b,h3];rfl),Ar.thn a⟩
 by_cases f:t.w=1
 .have e1:(t.w==1)=true:=by simp[f]
  have O:(t.w==0)=false:=by simp[f]
  cases h1:(t.op==0)<;>cases b:t.F.toList.isEmpty<;>cases h3:Dk t.val
  all_goals
   go_enter func266,ntmps266;go_wp2_with (go_at_call 176;refine(V2 t.val _ l).rtn λw' a=>?_)
  all_goals try go_ret
  all_goals first
   |exact⟨Ba (by rw[G.o,O,e1,h1,b,h3];rfl),Ar⟩
   |exact⟨Ba (by rw[G.o,O,e1,h1,b,h3];rfl),Ar.thn a⟩
 by_cases k2:t.w=2
 .have e2:(t.w==2)=true:=JL;have e1:(t.w==1)=false:=JL;have O:(t.w==0)=false:=JL;cases h1:(t.op==0)<;>cases b:AP t.F.data.toList<;>cases h3:E4 t.val
  all_goals
   go_enter func266,ntmps266;go_wp2_with (first|(go_at_call 116;refine(J6 t.F _ c).j ?_;rintro e w' ⟨rfl,rfl⟩)|(go_at_call 267;refine(PT t.val _).rtn λw' a=>?_))
  all_goals try go_ret
  all_goals first
   |exact⟨Ba (by rw[G.o,O,e1,e2,h1,b,h3];rfl),Ar⟩
   |exact⟨Ba (by rw[G.o,O,e1,e2,h1,b,h3];rfl),Ar.thn a⟩
 have e2:(t.w==2)=false:=T5;have e1:(t.w==1)=false:=by simpa using f
 have O:(t.w==0)=false:=by simpa using k
 by_cases k3:t.w=3
 .have e3:(t.w==3)=true:=Nz;by_cases d:1<=t.op/\t.op<=6
  .obtain⟨o1,o2⟩:=d;cases h1:t.F.toList.isEmpty
   .cases h4:AP t.F.data.toList<;>cases h3:E4 t.val
    all_goals
     go_enter func266,ntmps266;go_wp2_with (first|(go_at_call 116;refine(J6 t.F _ c).j ?_;rintro e w' ⟨rfl,rfl⟩)|(go_at_call 267;refine(PT t.val _).rtn λw' a=>?_))
    all_goals try go_ret
    all_goals first
     |exact⟨Ba ue,Ar⟩
     |exact⟨Ba ue,Ar.thn a⟩
   have h4:AP t.F.data.toList=false:=VD (by
    have:t.F.toList=[]:=qx;rw[<-W6,this];rfl)
   cases b:Dk t.val
   all_goals
    go_enter func266,ntmps266;go_wp2_with (first|(go_at_call 116;refine(J6 t.F _ c).j ?_;rintro e w' ⟨rfl,rfl⟩)|(go_at_call 176;refine(V2 t.val _ l).rtn λn i=>?_;have p:At n w.heap.size 2 (.string t.F):=zab i ql))
   all_goals try go_ret
   all_goals exact⟨Ba (by rw[G.o,O,e1,e2,e3,h1,b,h4,decide_eq_true o1,decide_eq_true o2];rfl),Ar.thn i⟩
  obtain⟨D⟩:Nonempty (Hid (∀z,(decide (1<=t.op)&&(decide (t.op<=6)&&z))=false)):=⟨λz=>by
   by_cases h:1<=t.op
   .have g:¬t.op<=6:=λg=>d ⟨h,g⟩;rw[decide_eq_false g];simp
   rw[decide_eq_false h];rfl⟩
  by_cases o1:1<=t.op
  focus
   have o2:¬t.op<=6:=λh=>d ⟨o1,h⟩
  rotate_left;rotate_left
  all_goals
   go_enter func266,ntmps266;go_wp2;go_ret;exact⟨Ba (by rw[G.o,O,e1,e2,e3];first|exact D _|exact(D _).z),Ar⟩
 have e3:(t.w==3)=false:=by simpa using k3
 go_enter func266,ntmps266;go_wp2;go_ret;exact⟨Ba (by rw[G.o,O,e1,e2,e3];rfl),Ar⟩
def Nt(s w)(b:s.size<=maxLen) :
  Ca 265 #[.string s] w λe w'=>e=.returned (.bool (DS s))/\w'=w:=by
 cases a:AP s.data.toList
 all_goals
  go_enter func265,ntmps265;go_wp2_with (go_at_call 116;refine(J6 s _ b).j ?_;rintro e w' ⟨rfl,rfl⟩);go_ret
 .exact⟨Ba (by simp[DS,a]),rfl⟩
 exact⟨Ba (by rw[DS,a,<-Gu,pI];rfl),rfl⟩
def zji(x a c){q}(w)(hv:Gs q w a x.s)(hc:x.E.size<=maxLen)(hs:FD Tm.le maxLen x.s)(hl:x.s.length<=1048576) :
  Ca 233 #[.agg #[.bool x.neg,.string x.E,.slice a x.s.length c]] w λe w'=>
   e=.returned (.bool (Ej x))/\Bw w w':=by
 exact uq
def Nu(_:Aa)(r:Aj)(x:ByteArray):Prop:=r=[.string x]
def zs1{w w' r x}(h:Nu w r x):Nu w' r x:=h
abbrev JE(q:AD)(w:Aa)(a:Af)(xs:AG):Prop:=CI Nu q 9 1 w a xs
theorem JE.e{q w w' a xs}(h:JE q w a xs)(b:Bw w w'):JE q w' a xs:=CI.e h (λ_ _ _ h=>zs1 h) b
def JE.get{q w a xs i x}(h:JE q w a xs)(d:xs[i]?=some x):∃b o,a=some ⟨b,o,none⟩/\Qb q w 9 b/\At w b (o+i) (.string x):=by
 obtain⟨b,o,r,e,f,j,g,c⟩:=h i x d;unfold Nu at c;subst c;exact⟨b,o,e,f,by simpa using g 0 _ rfl⟩
def ZJ(s a c xs w){q}(hv:JE q w a xs)(hl:xs.length<=1048576) :
  Ca 106 #[.string s,.slice a xs.length c] w λe w'=>e=.returned (.bool (Co s xs))/\w'=w:=by
 go_enter func106,ntmps106;go_wp2
 go_loopw [9] (λi wr=>∃(k:Nat),k<=xs.length/\i=I6 k/\Co s xs=Co s (xs.drop k)/\wr=w) (mz xs.length)
 .exact⟨0,qd,rfl,rfl,rfl⟩
 obtain⟨k,t,rfl,n,j⟩:=hrel;subst j;have f:Hid (Co s xs=Co s (xs.drop k)):=n;by_cases l:k<xs.length
 .obtain⟨x,O⟩:=Bq l;obtain⟨b,o,rfl,p,r⟩:=hv.get O;have g:Hid (xs.drop k=x::xs.drop (k+1)):=Dx O;cases d:(s.toList==x.toList)
  all_goals go_wp2
  .go_roundw
   case rel=>
    refine⟨k+1,qd,qm,?_,(by first|rfl|trivial)⟩;rw[Gu]at d;have:x≠s:=λh=>by subst h;simp at d
    rw[f.o,g.o];simp[Co,this]
   case measure=>(simp;omega)
  go_ret;rw[Gu]at d;have m:s=x:=by simpa using d
  exact⟨Ba (by rw[f.o,g.o];simp[Co,m]),rfl⟩
 go_wp2;go_ret;exact⟨Ba (by rw[f.o,yH qd];rfl),rfl⟩
def VQ(a c es S)(x:Nat)(s w){q}(hv:EI q w a es)(hS:Bt es S)(l:S[x]?=some s) :
  Ca 236 #[.slice a es.length c,.int .i64 (x:Int)] w λe w'=>e=.returned (.int .i64 (s.1:Int))/\w'=w:=by
 have r:=hS.1;go_enter func236,ntmps236;go_wp2
 go_loopw [1] (λi wr=>∃(k:Nat)(t:Sp),i=.int .i64 k/\S[k]?=some t/\t.1=s.1/\wr=w) (λi _=>(intOf i).toNat)
 .exact⟨x,s,rfl,l,rfl,rfl⟩
 obtain⟨k,t,rfl,f,j,m⟩:=hrel;subst m;have M:k<S.length:=(yf.1 f).1;obtain⟨e,O⟩:∃e,es[k]?=some e:=⟨es[k]'(by omega),qf⟩
 have I:k<es.length:=qd;obtain⟨b,o,rfl,y,z,J,G,A,C,E,v,L⟩:=hv.get O;by_cases g:e.w=2
 .obtain⟨u,K,sa,sb,p,B,H,D,n,N,d⟩:=hS.op f O g;rw[p]at v;go_wp2;exact⟨⟨u,sa,rfl,n,(by rw[<-j,d]),(by first|rfl|trivial)⟩,qp⟩
 have d:=hS.bM f O g;go_wp2;go_ret;refine⟨?_,rfl⟩;rw[<-j,d];rfl
def q_(a c es){q}(x g i d f:Nat)(e w)(hv:EI q w a es)(O:es[x]?=some e)(C:e.w=2)(m:e.a=(g:Int))(l:e.b=(i:Int))(K:d<=20)(A:f<=20)(n:Ca 269 #[.slice a es.length c,I6 (g:Int)] w λe w'=>e=.returned (I6 (d:Int))/\w'=w)(s:Ca 269 #[.slice a es.length c,I6 (i:Int)] w λe w'=>e=.returned (I6 (f:Int))/\w'=w) :
  Ca 269 #[.slice a es.length c,I6 (x:Int)] w λe w'=>e=.returned (I6 ((1+max d f:Nat):Int))/\w'=w:=by
 have L:x<es.length:=(yf.1 O).1;obtain⟨b,o,rfl,u,v,J,H,y,z,D,r,t⟩:=hv.get O;rw[m]at r;rw[l]at t;have tok:True:=trivial;by_cases hlt:(d:Int)<(f:Int)
 all_goals
  go_enter func269,ntmps269;go_wp2_with (first|(go_at_call 269;have _t:=tok;refine n.j ?_;rintro G B ⟨rfl,k⟩;subst k;clear tok)|(go_at_call 269;refine s.j ?_;rintro E I ⟨rfl,p⟩;subst p));go_ret;refine⟨GT ?_,rfl⟩;omega
def rH(a c es S){q}(w)(hv:EI q w a es)(hS:Bt es S):∀(x:Nat)(s:Sp),S[x]?=some s ->
  Ca 269 #[.slice a es.length c,I6 (x:Int)] w λe w'=>e=.returned (I6 (s.2:Int))/\w'=w:=by
 have m:=hS.1;intro x
 induction x using Nat.strongRecOn with
 |_ x ih=>
  intro s g;have H:x<S.length:=(yf.1 g).1;obtain⟨e,O⟩:∃e,es[x]?=some e:=⟨es[x]'(by omega),qf⟩
  have z:x<es.length:=qd;by_cases f:e.w=2
  .obtain⟨i,j,sa,sb,p,n,v,D,l,k,d⟩:=hS.op g O f;have:=q_ a c es x i j sa.2 sb.2 e w hv O f p n (hS.aS i sa l) (hS.aS j sb k) (ih i qd sa l) (ih j qd sb k);rw[d];exact this
  have d:=hS.bM g O f;obtain⟨b,o,rfl,r,t,C,u,y,B,G,A,E⟩:=hv.get O;go_enter func269,ntmps269;go_wp2;go_ret;exact⟨by rw[d];rfl,rfl⟩
def sR(x:Ru)(a f c d g j){q}(w)(O:Gl q w a x.x)(hl:x.x.length<=1048576) :
  Ca 54 #[.agg #[.string x.name,I6 x.aq,.slice a x.x.length f,.slice c x.A.length d,.slice g x.K.length j]] w λe w'=>
   e=.returned (I6 (Ag x.x:Int))/\Bw w w':=by
 go_enter func54,ntmps54;exact tu
def NQ:AG:=[⟨#[43]⟩,⟨#[45]⟩,⟨#[42]⟩,⟨#[47]⟩,⟨#[37]⟩]
def LY(c:Int):ByteArray:=strOfNums [c]
def w_{c}(O:0<=c)(a:c<256):Co (LY c) NQ=Eh c:=by
 have key:∀n:Fin 256,Co (LY ((n.val:Nat):Int)) NQ=Eh ((n.val:Nat):Int):=OL;obtain⟨n,rfl⟩:=Yk O;exact key ⟨n,qd⟩
def f_(c w b)(h:At w b 0 (.int .u8 c)):(convert 22 9 (.slice (some ⟨b,0,none⟩) 1 1)).run prog w=.ok (.string (LY c)) w:=
 run_convert_bytes_arg (P:=prog) _ 22 5 underlying22 underlying5 b 0 1 1 [c] rfl (λi a=>by
  obtain rfl:i=0:=qd
  simpa using h) 9 underlying9
def gw(w):Ca 268 #[] w λe w'=>e=.returned (.slice (some ⟨w.heap.size,0,none⟩) 5 5)/\w'=w.alloc (.cells #[.string ⟨#[43]⟩,.string ⟨#[45]⟩,.string ⟨#[42]⟩,.string ⟨#[47]⟩,.string ⟨#[37]⟩] 9):=by
 go_enter func268,ntmps268;exact RZ
def vJ(w b)(h:Bk w b #[.string ⟨#[43]⟩,.string ⟨#[45]⟩,.string ⟨#[42]⟩,.string ⟨#[47]⟩,.string ⟨#[37]⟩] 9):JE none w (some ⟨b,0,none⟩) NQ:=by
 intro i x a;refine⟨b,0,[.string x],rfl,Qb.ac _ _ _,rfl,?_,rfl⟩;intro j v hj;have O:j=0:=by
  exact jL
 subst O;simp at hj;subst hj;have c:i<5:=(yf.1 a).1;simp only[World.cell?,h]
 match i,c with
 |0,_=>simp[NQ]at a;simp[a]
 |1,_=>simp[NQ]at a;simp[a]
 |2,_=>simp[NQ]at a;simp[a]
 |3,_=>simp[NQ]at a;simp[a]
 |4,_=>simp[NQ]at a;simp[a]
def ZB(c)(O:0<=c)(a:c<256)(b w)(h:Bk w b #[.string ⟨#[43]⟩,.string ⟨#[45]⟩,.string ⟨#[42]⟩,.string ⟨#[47]⟩,.string ⟨#[37]⟩] 9) :
  Ca 106 #[.string (LY c),.slice (some ⟨b,0,none⟩) 5 5] w λe w'=>e=.returned (.bool (Eh c))/\w'=w:=by
 rw[<-w_ O a];exact ZJ (LY c) _ 5 NQ w (vJ w b h) qi
def x7(w:Aa)(o b)(h:b=w.heap.size):(w.alloc o).drew.heap[b]?=some o:=by
 subst h;exact heap_alloc_new _ _
def xO(w:Aa)(o o' b)(h:b=w.heap.size):((w.alloc o).alloc o').drew.heap[b]?=some o:=by
 subst h;exact(yN _ _ _ qf).c (heap_alloc_new _ _)
def ziu{α}(f):∀(l:List α)(k:Nat),Eu f l k=none->∀x∈l,f x=true:=by intro l;induction l<;>grind[Eu]
theorem p9{r}(h:AO r=none):r.x.length<=6/\∀p∈r.x,Ej p=true:=by
 unfold AO at h;split at h
 .rename_i a;simp only[LO,ym,decide_eq_true_eq]at a;refine⟨a.2.1,?_⟩;cases b:Eu Ej r.x 1 with
  |some i=>rw[b]at h;cases h
  |none=>exact ziu Ej r.x 1 b
 cases h
def zv3{pre r}(h:(CC pre r).1=0):AO r=none/\Ag r.x<=3:=by grind[AO,Ag,Bp,CC,CU]
theorem zpj:∀(l pre:Az)(k:Nat),(Gj pre l k).1=0->∀r∈l,AO r=none/\Ag r.x<=3:=by intro l;induction l<;>grind[AO,Ag,Gj,CC]
theorem Tc{rs}(h:(Cf rs).1=0):rs.length<=16/\∀r∈rs,AO r=none/\Ag r.x<=3:=by grind[AO,Ag,Cf,Gj,-> zpj]
def Oy{rs}(h:(Cf rs).1=0){r}(a:r∈rs):r.x.length<=6/\(∀p∈r.x,p.s.length<=6)/\Ag r.x<=3:=by grind[DS,AO,Ej,Ag,Cf,DC,Tc,p9]
def tf(h:P:=by go_wp2;go_ret;exact⟨Ba (by rw[G.o,decide_eq_false (by omega)];rfl),Au⟩):=h
def uw(h:P:=by
 obtain⟨G⟩:Nonempty (Hid (DO vs=(decide (vs.length<=6)&&vs.all Dk))):=⟨rfl⟩
 by_cases h6:6<vs.length
 .have aj:=Hk h6
  first
   | (have _:=tP
      go_enter func117,ntmps117)
   |(go_enter func214,ntmps214)
  exact tf
 .have aj:=FN h6
  first
   | (have _:=tP
      go_enter func117,ntmps117)
   |(go_enter func214,ntmps214)
  go_wp2
  go_loopw [10] (λi wr=>∃(k:Nat),k<=vs.length/\i=I6 k/\DO vs=(vs.drop k).all Dk/\Bw w wr) (mz vs.length)
  .exact⟨0,by omega,rfl,by rw[G.o,decide_eq_true (by omega)];rfl,Au⟩
  obtain⟨k,hk,rfl,hG,hb⟩:=hrel;have HG:Hid (DO vs=(vs.drop k).all Dk):=hG;clear hG;by_cases ai:k<vs.length
  .obtain⟨v,O⟩:=Bq ai;obtain⟨b,o,rfl,c0,c1,c2⟩:=hv.e hb k v O;have af:v.O.size<=maxLen:=hs v (yd O);have HD:Hid (vs.drop k=v::vs.drop (k+1)):=by
    obtain⟨h,rfl⟩:=yf.1 O;exact WX h
   cases ah:Dk v
   first
    | (have _:=tP
       all_goals
         go_wp2_with (go_at_call 176;refine(V2 v _ af).rtn λw' hb'=>?_))
    | (all_goals
         go_wp2_with (go_at_call 256;refine(VP v _ af).rtn λw' hb'=>?_))
   .go_ret;exact⟨Ba (by rw[HG.o,HD.o,YR,ah];rfl),hb.c ((Ar.thn hb').j hb.size)⟩
   go_roundw
   case rel=>exact⟨k+1,by omega,by go_num,by rw[HG.o,HD.o,YR,ah];rfl,hb.c ((Ar.thn hb').j hb.size)⟩
   case measure=>(simp;omega)
  exact TQ
 ):=h
def RV(a c vs w)(hv:Cj w a vs)(hl:vs.length<=1048576)(hs:∀v∈vs,v.O.size<=maxLen) :
  Ca 117 #[.slice a vs.length c] w λe w'=>
   e=.returned (.bool (DO vs))/\Bw w w':=by
 have tP:=trivial;exact uw
def A6(f:F):Prop:=f.E.size<=maxLen/\f.v.length<=1048576/\∀v∈f.v,v.O.size<=maxLen
def ux(h:P:=by
 obtain⟨G⟩:Nonempty (Hid (ET fs=(decide (fs.length<=40)&&CL 0 fs))):=⟨rfl⟩
 by_cases h6:40<fs.length
 .have am:=Hk h6
  first
   | (have _:=tP
      go_enter func124,ntmps124)
   |(go_enter func107,ntmps107)
  exact tf
 .have am:=FN h6
  first
   | (have _:=tP
      go_enter func124,ntmps124)
   |(go_enter func107,ntmps107)
  go_wp2
  first
   | (have _:=tP
      go_loopw [3,11] (λl i wr=>∃(k:Nat)(last:Int),k<=fs.length/\i=I6 k/\l=I6 last/\ET fs=CL last (fs.drop k)/\Bw w wr) (λ_ i _=>fs.length-(intOf i).toNat)
      case atStart=>exact⟨0,0,by omega,rfl,rfl,by rw[G.o,decide_eq_true (by omega)];rfl,Au⟩)
   | (go_loopw [3,11] (λl i wr=>∃ (k:Nat) (last:Int),0<=last/\k<=fs.length/\i=I6 k/\l=I6 last/\ET fs=CL last (fs.drop k)/\Bw w wr) (λ_ i _=>fs.length - (intOf i).toNat)
      case atStart=>exact⟨0,0,by omega,by omega,rfl,rfl,by rw[G.o,decide_eq_true (by omega)];rfl,Au⟩)
  case round=>
   first
    | (have _:=tP
       obtain⟨k,last,hk,rfl,rfl,hG,hb⟩:=hrel)
    |(obtain⟨k,last,ao,hk,rfl,rfl,hG,hb⟩:=hrel)
   have HG:Hid (ET fs=CL last (fs.drop k)):=hG;clear hG;by_cases ak:k<fs.length
   .obtain⟨f,aj⟩:=Bq ak;obtain⟨b,o,rfl,c0,c1,s,cs,c2,hsl⟩:=hv.e hb k f aj;obtain⟨hs1,ai,ah⟩:=hs f (yd aj);have HD:Hid (fs.drop k=f::fs.drop (k+1)):=Dx aj;have HO:Hid (Jl last f=(decide (last<f.tag)&&(decide (f.tag<=1000000)&&(AP f.E.data.toList&&DO f.v)))):=rfl;have af:Hid (Jl last f=false->ET fs=false):=λe=>by rw[HG.o,HD.o,CL,e];rfl
    have good:Hid (Jl last f=true->ET fs=CL f.tag (fs.drop (k+1))):=λe=>by rw[HG.o,HD.o,CL,e];rfl
    by_cases h1:f.tag<=last
    .have O:Hid (ET fs=false):=af (by rw[HO.o,decide_eq_false (by omega)];rfl);go_wp2;go_ret;exact⟨Ba O.z,hb.thn Ar⟩
    first
     | (have _:=tP
        by_cases h2:1000000<f.tag)
     |(cases h3:SE f)
    .first
      | (have _:=tP
         have O:Hid (ET fs=false):=af (by rw[HO.o,decide_eq_false (p:=f.tag<=1000000) (by omega)];simp);go_wp2)
      | (have O:Hid (ET fs=false):=af (by rw[HO.o,ph (by omega:1<=f.tag) h3,WI])
         go_wp2_with (go_at_call 170;refine(rm f s cs _ (hsl.e Ar) hs1 ai ah).rtn λw1 hb'=>?_))
     go_ret
     first
      | (have _:=tP
         exact⟨Ba O.z,hb.thn Ar⟩)
      |(exact⟨Ba O.z,hb.c ((Ar.thn hb').j hb.size)⟩)
    first
     | (have _:=tP
        cases h3:AP f.E.data.toList
        · have O:Hid (ET fs=false):=af (by rw[HO.o,h3];simp)
          go_wp2_with (go_at_call 116;refine(J6 f.E _ hs1).j ?_;rintro e w' ⟨rfl,rfl⟩);go_ret;exact⟨Ba O.z,hb.thn Ar⟩
        · cases h4:DO f.v
          · have O:Hid (ET fs=false):=af (by rw[HO.o,h4];simp)
            go_wp2_with (first|(go_at_call 116;refine(J6 f.E _ hs1).j ?_;rintro e w' ⟨rfl,rfl⟩)|(go_at_call 117;refine(RV s cs f.v _ (hsl.e Ar) ai ah).rtn λw1 hb'=>?_));go_ret;exact⟨Ba O.z,hb.c ((Ar.thn hb').j hb.size)⟩
          · have O:Hid (ET fs=CL f.tag (fs.drop (k+1))):=good (by rw[HO.o,h3,h4,decide_eq_true (by omega),decide_eq_true (by omega)];rfl)
            go_wp2_with (first|(go_at_call 116;refine(J6 f.E _ hs1).j ?_;rintro e w' ⟨rfl,rfl⟩)|(go_at_call 117;refine(RV s cs f.v _ (hsl.e Ar) ai ah).rtn λw1 hb'=>?_;obtain⟨hc,hf⟩:=AU hb'));go_roundw
            case rel=>exact⟨k+1,f.tag,by omega,by go_num,rfl,O,hb.c ((Ar.thn hb').j hb.size)⟩
            case measure=>simp[intOf];omega)
     | (have O:Hid (ET fs=CL f.tag (fs.drop (k+1))):=good (by rw[HO.o,ph (by omega:1<=f.tag) h3,decide_eq_true (by omega)];rfl)
        go_wp2_with (go_at_call 170;refine(rm f s cs _ (hsl.e Ar) hs1 ai ah).rtn λw1 hb'=>?_;obtain⟨hc,hf⟩:=AU hb');go_roundw
        case rel=>exact⟨k+1,f.tag,by omega,by omega,by go_num,rfl,O,hb.c ((Ar.thn hb').j hb.size)⟩
        case measure=>simp[intOf];omega)
   exact TQ
 ):=h
def iF(a c fs w)(hv:Cs w a fs)(hl:fs.length<=1048576)(hs:∀f∈fs,A6 f) :
  Ca 124 #[.slice a fs.length c] w λe w'=>
   e=.returned (.bool (ET fs))/\Bw w w':=by
 have tP:=trivial;exact ux
def Tz(a c vs w)(hv:Cj w a vs)(hl:vs.length<=1048576)(hs:∀v∈vs,v.O.size<=maxLen) :
  Ca 214 #[.slice a vs.length c] w λe w'=>
   e=.returned (.bool (DO vs))/\Bw w w':=by
 exact uw
def rm(f a c w)(hv:Cj w a f.v)(p:f.E.size<=maxLen)(hl:f.v.length<=1048576)(n:∀v∈f.v,v.O.size<=maxLen) :
  Ca 170 #[.agg #[I6 f.tag,.string f.E,.slice a f.v.length c]] w λe w'=>
   e=.returned (.bool (SE f))/\Bw w w':=by
 obtain⟨G⟩:Nonempty (Hid (SE f=(decide (1<=f.tag)&&(decide (f.tag<=1000000)&&(AP f.E.data.toList&&DO f.v))))):=⟨rfl⟩
 by_cases i:1<=f.tag
 .by_cases l:f.tag<=1000000
  .have d:decide (1<=f.tag)=true:=decide_eq_true i;have b:decide (f.tag<=1000000)=true:=decide_eq_true l;cases k:AP f.E.data.toList<;>cases m:DO f.v
   all_goals
    go_enter func170,ntmps170;go_wp2_with (first|(go_at_call 197;refine(LP f.E _ p).j ?_;rintro e w' ⟨rfl,rfl⟩)|(go_at_call 214;refine(Tz a c f.v _ (hv.e Ar) hl n).rtn λw' g=>?_));go_ret
    first
    |exact⟨Ba (by rw[G.o,d,b,k,m];rfl),Ar⟩
    |exact⟨Ba (by rw[G.o,d,b,k,m];rfl),Ar.thn g⟩
  have b:decide (f.tag<=1000000)=false:=decide_eq_false l;go_enter func170,ntmps170;go_wp2;go_ret;exact⟨Ba (by rw[G.o,b];simp),Ar⟩
 have d:decide (1<=f.tag)=false:=decide_eq_false i;go_enter func170,ntmps170;go_wp2;go_ret;exact⟨Ba (by rw[G.o,d];rfl),Ar⟩
def iI(a c fs w)(hv:Cs w a fs)(hl:fs.length<=1048576)(hs:∀f∈fs,A6 f) :
  Ca 107 #[.slice a fs.length c] w λe w'=>
   e=.returned (.bool (ET fs))/\Bw w w':=by
 exact ux
abbrev Kt:=Af × Af × Af
abbrev Cc:=List (Kt × Value)
abbrev B_:=List (Kt × Int)
abbrev C_:=List (List Kt)
abbrev Av:=List Kt
def Bh(x:Kt):Value:=.agg #[.pointer x.1,.pointer x.2.1,.pointer x.2.2]
def Pp{x y}(h:Bh x=Bh y):x=y:=by
 obtain⟨a,b,c⟩:=x;simp_all[Bh,Kt]
def BB(w:Aa)(p:Af):Prop:=∀a,p=some a->∃c,Bk w (a.block) c 145
def A_(w:Aa)(x:Kt):Prop:=BB w x.1/\BB w x.2.1/\BB w x.2.2
structure XI(P:Program) (kt pt ft:TypeId):Prop where
 k:P.underlying kt=some (.array 3 pt)
 p:P.underlying pt=some (.pointer ft)
 sp:∀w:Aa,(sizeOf pt).run P w=.ok 1 w
 sf:∃n,n≠0/\∀w:Aa,(sizeOf ft).run P w=.ok n w
def Eg(x:Kt):Cc->Nat->Option (Nat × Value)
 |[],_=>none
 |e::es,i=>if x=e.1 then some (i,e.2) else Eg x es (i+1)
def FY(es:Gy)(L:Cc):Prop:=es.map (λe=>(e.key,e.val))=L.map (λx=>(Bh x.1,x.2))
def CW(x:Kt)(L:Cc):Option Value:=(L.find? (λy=>decide (y.1=x))).map Prod.snd
def Cz(x:Kt)(v:Value)(L:Cc):Cc:=if(CW x L).isSome then L.map (λy=>if y.1=x then(x,v) else y) else L++[(x,v)]
def Ez(x:Kt)(L:Cc):Cc:=L.filter (λy=>decide (y.1≠x))
def Ta(x):∀(L:Cc)(i:Nat),(Eg x L i).map Prod.snd=CW x L
 |[],i=>rfl
 |y::r,i=>by
  have O:=Ta x r (i+1)
  unfold Eg CW
  by_cases h:x=y.1
  .rw[if_pos h,List.find?_cons_of_pos (by simp[h])]
   rfl
  rw[if_neg h,Wf (by simpa usingλe=>h e.z)]
  exact O
def Te{x}:∀{L:Cc}{i j:Nat}{v:Value},Eg x L i=some (j,v)->∃k,j=i+k/\L[k]?=some (x,v)
 |[],_,_,_,h=>by simp[Eg]at h
 |y::r,i,j,v,h=>by
  unfold Eg at h
  split at h
  .rename_i e
   simp only[Y1,YF]at h
   exact⟨0,by omega,by rw[yy,<-h.2,e]⟩
  obtain⟨k,a,h2⟩:=Te h
  exact⟨k+1,qd,qw⟩
def a_{x}:∀{L:Cc}{i:Nat},Eg x L i=none->∀y∈L,y.1≠x
 |[],_,_,y,a=>by simp at a
 |z::r,i,h,y,a=>by
  unfold Eg at h
  split at h
  .cases h
  rename_i e
  rcases yW.1 a with rfl|a
  .exactλO=>e O.z
  exact a_ h y a
def Va{x v u}:∀{L:Cc}{k:Nat},(L.map Prod.fst).Nodup->L[k]?=some (x,v)->L.set k (x,u)=L.map (λy=>if y.1=x then(x,u) else y)
 |[],k,_,h=>by simp at h
 |y::r,0,hn,h=>by
  simp only[yy,Y1]at h
  subst h
  simp only[yx,Yo]at hn
  rw[yF,yx,if_pos rfl]
  congr 1
  have:r.map (λy=>if y.1=x then(x,u) else y)=r.map id:=Ym λz b=>by
   rw[if_neg (λe:z.1=x=>hn.1 (by rw[<-e];exact yS b))]
   rfl
  rw[this,KE]
 |y::r,k+1,hn,h=>by
  simp only[yC]at h
  simp only[yx,Yo]at hn
  have a:y.1≠x:=λe=>hn.1 ud
  rw[yG,Va hn.2 h,yx,if_neg a]
def zsG{x v L}(h:(CW x L).isSome=true):(Cz x v L).map Prod.fst=L.map Prod.fst:=by
 rw[Cz,if_pos h,Yl];refine Ym λy _=>?_
 grind
def gH{x v}:∀{L:Cc}{k:Nat},(L.map Prod.fst).Nodup->L[k]?=some (x,v)->L.eraseIdx k=Ez x L
 |[],k,_,h=>by simp at h
 |y::r,0,hn,h=>by
  simp only[yy,Y1]at h
  subst h
  simp only[yx,Yo]at hn
  rw[List.eraseIdx_cons_zero,Ez,yT (by simp)]
  refine(Yp.2 λz a=>?_).z
  simpa usingλe:z.1=x=>hn.1 (by rw[<-e];exact yS a)
 |y::r,k+1,hn,h=>by
  simp only[yC]at h
  simp only[yx,Yo]at hn
  have hy:y.1≠x:=λe=>hn.1 ud
  rw[Y9,gH hn.2 h,Ez,Ez,yQ T0]
def mj{x L}(h:∀y∈L,y.1≠x):Ez x L=L:=Yp.2 λy a=>by simpa using h y a
def PH{x L}:(CW x L).isSome=true↔x∈L.map Prod.fst:=by simp[Kt,CW]
structure Ao(w:Aa) (b:Nat) (L:Cc):Prop where
 Y:∃es clock,w.heap[b]?=some (.map es clock)/\FY es.toList L/\(es.toList.map (·.born)).Nodup/\∀e∈es.toList,e.born<clock
 nd:(L.map Prod.fst).Nodup
 ok:∀y∈L,A_ w y.1
def gM{P w r es a}(b:w.heap[r]?=some (.map es a)):(getObj r).run P w=.ok (.map es a) w:=by simp[getObj,Sem.run,b]
def sM{P w r es a o}(b:w.heap[r]?=some (.map es a)):(setObj r o).run P w=.ok () { w with heap:=w.heap.setIfInBounds r o }:=by simp[setObj,Sem.run,b]
section
variable {P : Program} {kt pt ft : TypeId} (H : XI P kt pt ft) {w : Aa}
def UK(d:Nat){p q:Af}(f:BB w p)(g:BB w q):(Op.equalIn (d+1) pt (.pointer p) (.pointer q)).run P w=.ok (decide (p=q)) w:=by
 obtain⟨n,k,c⟩:=H.sf;cases p with
 |none=>cases q<;>simp[Op.equalIn,run_underlying H.p]
 |some a=>
  cases q with
  |none=>simp[Op.equalIn,run_underlying H.p]
  |some b=>
   by_cases e:a=b
   .subst e;simp[Op.equalIn,run_underlying H.p,c,run_sameAddr_same]
   obtain⟨ca,i⟩:=f a rfl;obtain⟨cb,j⟩:=g b rfl;simp[Op.equalIn,run_underlying H.p,c,k,run_sameAddr_other w e i j,e]
def RE(c:Bl)(i:Nat)(v:Value)(h:c[i]?=some v):(part pt c i).run P w=.ok v w:=by
 simp[part,isAgg,run_underlying H.p,h]
def vz{x y:Kt}(t:A_ w x)(u:A_ w y):(Op.equal kt (Bh x) (Bh y)).run P w=.ok (decide (x=y)) w:=by
 obtain⟨a,b,c⟩:=x;obtain⟨d,e,f⟩:=y;have g:=UK H 9998 t.1 u.1;have i:=UK H 9998 t.2.1 u.2.1;have m:=UK H 9998 t.2.2 u.2.2;unfold Op.equal Op.maxDepth Bh;rw[Op.equalIn];simp only at g i m;have s:=λ(j n l:Value)=>RE H (w:=w) #[j,n,l] 0 j rfl;have v:=λ(j n l:Value)=>RE H (w:=w) #[j,n,l] 1 n rfl;have z:=λ(j n l:Value)=>RE H (w:=w) #[j,n,l] 2 l rfl;have r:List.range' 0 3=[0,1,2]:=rfl;simp only[Nat.reduceAdd]at g i m;by_cases q:a=d
 .rw[decide_eq_true q]at g;by_cases p:b=e
  .rw[decide_eq_true p]at i;by_cases o:c=f
   .rw[decide_eq_true o]at m;rw[decide_eq_true (show(a,b,c)=(d,e,f) by rw[q,p,o])];simp[run_underlying H.k,H.sp,r,s,v,z,g,i,m]
   rw[decide_eq_false o]at m;rw[decide_eq_false (λh=>o (by injection h with _ h;injection h))];simp[run_underlying H.k,H.sp,r,s,v,z,g,i,m]
  rw[decide_eq_false p]at i;rw[decide_eq_false (λh=>p (by injection h with _ h;injection h))];simp[run_underlying H.k,H.sp,r,s,v,g,i]
 rw[decide_eq_false q]at g;rw[decide_eq_false (λh=>q (by injection h))];simp[run_underlying H.k,H.sp,r,s,g]
def zO(O:Bool)(d:Nat)(p:Af):(Instr.checkKey O (d+1) pt (.pointer p)).run P w=.ok () w:=by
 simp[Instr.checkKey,run_underlying H.p]
def Ou(O:Bool)(x:Kt):(Instr.checkKey O 10000 kt (Bh x)).run P w=.ok () w:=by
 obtain⟨a,b,c⟩:=x;have j:=λ(e d f:Value)=>RE H (w:=w) #[e,d,f] 0 e rfl;have i:=λ(e d f:Value)=>RE H (w:=w) #[e,d,f] 1 d rfl;have g:=λ(e d f:Value)=>RE H (w:=w) #[e,d,f] 2 f rfl;have r:List.range' 0 3=[0,1,2]:=rfl;have k:=λp=>zO H (w:=w) O 9998 p;simp only[Nat.reduceAdd]at k;rw[show(10000:Nat)=9999+1 from rfl,Instr.checkKey];simp[run_underlying H.k,H.sp,Bh,r,j,i,g,k]
def rO{x:Kt}(a:A_ w x):∀{es:Gy}{L:Cc}(i:Nat),FY es L->(∀y∈L,A_ w y.1)->(Instr.findAsking kt (Bh x) es i).run P w=.ok (Eg x L i) w
 |[],L,i,he,_=>by
  cases L with
  |nil=>simp[Instr.findAsking,Eg]
  |cons y r=>simp[FY]at he
 |e::es,L,i,he,hL=>by
  cases L with
  |nil=>simp[FY]at he
  |cons y r=>
   simp only[FY,yx,Yv,YF]at he
   have O:=rO a (i+1) (show FY es r from he.2) (λz b=>hL z (by simp[b]))
   rw[Instr.findAsking,he.1.1,he.1.2]
   simp only[V9,vz H a (hL y qf),Kk]
   by_cases h:x=y.1
   .simp[h,Eg]
   simp[h,Eg,O]
def zsK(x){es L}(a:FY es L):Instr.findNow (.array 3 pt) (Bh x) es 0=if es=[] then some none else none:=by
 cases es with
 |nil=>simp[Instr.findNow]
 |cons e es=>
  cases L with
  |nil=>simp[FY]at a
  |cons y r=>
   simp only[FY,yx,Yv,YF]at a;simp[Instr.findNow,Instr.sameNow]
def Tb{x:Kt}(b:A_ w x){es:Gy}{L:Cc}(a:FY es L)(c:∀y∈L,A_ w y.1):(Instr.findKey kt (Bh x) es).run P w=.ok (Eg x L 0) w:=by
 unfold Instr.findKey;simp only[V9,run_underlying H.k,Kk];rw[zsK x a];cases es with
 |nil=>
  cases L with
  |nil=>simp[Eg]
  |cons y r=>simp[FY]at a
 |cons e es=>simpa using rO H b 0 a c
def PE{mt f:TypeId}(i:P.underlying mt=some (.map kt f)){z:Value}(l:(zeroValue f).run P w=.ok z w){b:Nat}{L:Cc}(h:Ao w b L){x:Kt}(j:A_ w x)(O:Bool):(Instr.lookup mt (.map (some b)) (Bh x) O).run P w=.ok (if O=true then .tuple #[(CW x L).getD z,.bool (CW x L).isSome] else(CW x L).getD z) w:=by
 obtain⟨es,d,e,k,_⟩:=h.Y;have c:=Tb H j k h.ok;have a:=Ta x L 0;cases g:Eg x L 0 with
 |none=>
  rw[g]at c a;rw[<-a];cases O<;>simp[Instr.lookup,run_underlying i,gM e,Ou H,c,l]
 |some p=>
  rw[g]at c a;rw[<-a];cases O<;>simp[Instr.lookup,run_underlying i,gM e,Ou H,c]
def oQ(x):Instr.sameBits 10000 (Bh x) (Bh x)=true:=by
 obtain⟨a,b,c⟩:=x;simp[Bh,Instr.sameBits]
def zR{es L}(h:FY es L):es.length=L.length:=by
 have:=congrArg List.length h
 grind
def UJ{es L}(h:FY es L){k:Nat}{x v}(a:L[k]?=some (x,v)):∃e,es[k]?=some e/\e.key=Bh x/\e.val=v:=by
 have:=congrArg (·[k]?) h
 grind
def wW{mt K:TypeId}(A:P.underlying mt=some (.map kt K)){b:Nat}{L:Cc}(h:Ao w b L){x:Kt}(E:A_ w x)(v:Value):∃o,(Instr.mapUpdate mt (.map (some b)) (Bh x) v).run P w=.ok () { w with heap:=w.heap.setIfInBounds b o }/\∃es d,o=.map es d/\FY es.toList (Cz x v L)/\(es.toList.map (·.born)).Nodup/\∀e∈es.toList,e.born<d:=by
 obtain⟨es,d,l,g,C,m⟩:=h.Y;have q:=Tb H E g h.ok;have n:=Ta x L 0;cases r:Eg x L 0 with
 |none=>
  rw[r]at q n;refine⟨_,by simp[Instr.mapUpdate,run_underlying A,gM l,Ou H,q,sM l];rfl,_,_,rfl,?_,?_,?_⟩
  .have T:(CW x L).isSome=false:=by rw[<-n];rfl
   unfold Cz;rw[if_neg (by rw[T];decide)];simp only[FY]at g⊢;simp[g]
  .simp only[Kl,yz,yx,YZ];rw[yL];refine⟨C,qf,?_⟩;intro a I c B e;simp at B;subst B;subst e;obtain⟨z,J,e⟩:=yv.1 I;have:=m z J;omega
  .intro e O;simp only[Kl,yp,yw]at O;rcases O with O|rfl
   .have:=m e O;omega
   .exact i8 _
 |some p=>
  obtain⟨i,u⟩:=p;rw[r]at q n;obtain⟨k,y,s⟩:=Te r;rw[Yj]at y;subst y;obtain⟨t,f,G,U⟩:=UJ g s;have N:i<es.size:=by have:=(yf.1 f).1;simpa using this
  have R:(((es[i]?).map (·.key)).getD (Bh x))=Bh x:=by
   have:es[i]?=some t:=by rw[<-Yn];exact f
   rw[this];exact G
  refine⟨_,by simp[Instr.mapUpdate,run_underlying A,gM l,Ou H,q,Instr.keyThatStays,R,oQ,sM l];rfl,_,_,rfl,?_,?_,?_⟩
  .have M:Cz x v L=L.set i (x,v):=by
    unfold Cz;rw[if_pos (by rw[<-n];rfl),<-Va h.nd s]
   rw[M];show List.map _ _=List.map _ _;rw[List.map_set];have O:es.toList.map (λe=>(e.key,e.val))=L.map (λx=>(Bh x.1,x.2)):=g;rw[<-O,WG];apply YH;intro j;rw[yE,Wt,K5,yE];by_cases hj:i=j
   .subst hj;rw[f];simp[N]
   simp[hj]
  .rw[WG];have:(es.toList.modify i λe=>{ e with key:=Bh x,val:=v }).map (·.born)=es.toList.map (·.born):=by
    apply YH;intro j;rw[yE,Wt,yE];by_cases hj:i=j
    .subst hj;rw[f];simp
    simp[hj]
   rw[this];exact C
  intro e O;rw[WG]at O;obtain⟨j,hj⟩:=Ku.1 O;rw[Wt]at hj;by_cases D:i=j
  .subst D;rw[f]at hj;simp at hj;rw[<-hj];exact m t (yd f)
  simp[D]at hj;exact m e (yd TW)
def z_{mt q ty t2:TypeId}(hm:P.underlying mt=some (.map kt q)){b:Nat}{L:Cc}(h:Ao w b L){x:Kt}(n:A_ w x):∃o,(Builtin.delete_ #[mt,t2] ty #[.map (some b),Bh x]).run P w=.ok (.tuple #[]) { w with heap:=w.heap.setIfInBounds b o }/\∃es a,o=.map es a/\FY es.toList (Ez x L)/\(es.toList.map (·.born)).Nodup/\∀e∈es.toList,e.born<a:=by
 obtain⟨es,a,hb,c,j,m⟩:=h.Y;have hf:=Tb H n c h.ok;cases d:Eg x L 0 with
 |none=>
  rw[d]at hf;refine⟨_,qL,_,_,rfl,?_,j,m⟩;rw[mj (a_ d)];exact c
 |some p=>
  obtain⟨i,u⟩:=p;rw[d]at hf;obtain⟨k,g,l⟩:=Te d;rw[Yj]at g;subst g;obtain⟨t,r,s,v⟩:=UJ c l;have f:i<es.size:=by have:=(yf.1 r).1;simpa using this
  refine⟨_,by simp[Builtin.delete_,run_underlying hm,gM hb,Ou H,hf,sM hb];rfl,_,_,rfl,?_,?_,?_⟩
  .rw[<-gH h.nd l];have O:es.toList.map (λe=>(e.key,e.val))=L.map (λx=>(Bh x.1,x.2)):=c;show List.map _ _=List.map _ _;rw[Array.eraseIdxIfInBounds,dif_pos f,Wp,Wa,Wa,O]
  .rw[Array.eraseIdxIfInBounds,dif_pos f,Wp,Wa];exact j.sublist (Wq _ _)
  intro e O;rw[Array.eraseIdxIfInBounds,dif_pos f,Wp]at O;exact m e ((Wq _ _).mem O)
def Zn{mt c O ty}(e:P.underlying mt=some (.map c O)){b L}(h:Ao w b L):(Builtin.len_ #[mt] ty #[.map (some b)]).run P w=.ok (goInt L.length) w:=by
 obtain⟨es,a,d,f,_⟩:=h.Y;have:=zR f;simp[Builtin.len_,run_underlying e,gM d,<-this]
def zqL{mt d O ty}(e:P.underlying mt=some (.map d O)){b L}(h:Ao w b L):∃a,(Builtin.clear_ #[mt] ty #[.map (some b)]).run P w=.ok (.tuple #[]) { w with heap:=w.heap.setIfInBounds b (.map #[] a) }:=by
 obtain⟨es,a,c,f,_⟩:=h.Y;exact⟨a,by simp[Builtin.clear_,run_underlying e,gM c,sM c]⟩
def zz{mt C:TypeId}(D:P.underlying mt=some (.map kt C)){z:Value}(R:(zeroValue C).run P w=.ok z w){b:Nat}{L:Cc}(h:Ao w b L){x:Kt}(J:A_ w x):∃(es:Array MapEntry)(d i:Nat)(e:MapEntry),(Instr.mapEntry mt (.map (some b)) (Bh x)).run P w=.ok (.tuple #[(CW x L).getD z,goInt e.born]) { w with heap:=w.heap.setIfInBounds b (.map es d) }/\FY es.toList (Cz x ((CW x L).getD z) L)/\(es.toList.map (·.born)).Nodup/\(∀e∈es.toList,e.born<d)/\es.toList[i]?=some e/\e.key=Bh x:=by
 obtain⟨es,d,l,f,v,r⟩:=h.Y;have n:=Tb H J f h.ok;have m:=Ta x L 0;cases q:Eg x L 0 with
 |none=>
  rw[q]at n m;have s:CW x L=none:=by rw[<-m];rfl
  refine⟨es.push { key:=Bh x,val:=z,born:=d },d+1,es.size,{ key:=Bh x,val:=z,born:=d },by rw[s];simp[Instr.mapEntry,run_underlying D,gM l,Ou H,n,R,sM l],?_,?_,?_,qf,rfl⟩
  .rw[s];unfold Cz;rw[s,if_neg qi];simp only[FY]at f⊢;simp[f]
  .simp only[Kl,yz,yx,YZ];rw[yL];refine⟨v,qf,?_⟩;intro a N c E e;simp at E;subst E;subst e;obtain⟨y,M,e⟩:=yv.1 N;have:=r y M;omega
  .intro e g;simp only[Kl,yp,yw]at g;rcases g with g|rfl
   .have:=r e g;omega
   .exact i8 _
 |some p=>
  obtain⟨i,u⟩:=p;rw[q]at n m;obtain⟨k,B,O⟩:=Te q;rw[Yj]at B;subst B;obtain⟨A,I,o,T⟩:=UJ f O;have t:CW x L=some u:=by rw[<-m];rfl
  have G:es[i]?=some A:=by rw[<-Yn];exact I
  have K:es.modify i (λe=>{ e with key:=Bh x })=es:=by
   apply Array.ext_getElem?;intro j;rw[YT];split
   .rename_i e;subst e;rw[G];simp[<-o]
   rfl
  refine⟨es,d,i,A,?_,?_,v,r,I,o⟩
  .rw[t];simp[Instr.mapEntry,run_underlying D,gM l,Ou H,n,Instr.keyThatStays,G,o,oQ,sM l,K]
  rw[t];unfold Cz;rw[t,if_pos (show(some u).isSome=true from rfl)];have:L.map (λy=>if y.1=x then(x,u) else y)=L:=by
   rw[<-Va h.nd O];apply YH;intro j;rw[K5];split
   .rename_i e;subst e;rw[O];simp[(yf.1 O).1]
   rfl
  show FY es.toList (L.map _);rw[YE,this];exact f
def zv{mt b L es}{a i:Nat}{e}(k:w.heap[b]?=some (.map es a))(l:FY es.toList L)(t:(L.map Prod.fst).Nodup)(B:(es.toList.map (·.born)).Nodup)(d:es.toList[i]?=some e){x}(m:e.key=Bh x)(u):∃g,(Instr.entryStore mt (.map (some b)) (goInt e.born) u).run P w=.ok () { w with heap:=w.heap.setIfInBounds b (.map g a) }/\FY g.toList (Cz x u L)/\(g.toList.map (·.born))=es.toList.map (·.born):=by
 have O:i<es.size:=by have:=(yf.1 d).1;simpa using this
 have p:es[i]?=some e:=by rw[<-Yn];exact d
 obtain⟨v,n⟩:∃v,L[i]?=some (x,v):=by
  have:=congrArg (·[i]?) (show es.toList.map (λe=>(e.key,e.val))=L.map (λx=>(Bh x.1,x.2)) from l);simp only[yE,d,Ws]at this;cases q:L[i]? with
  |none=>rw[q]at this;simp at this
  |some y=>
   rw[q]at this;simp at this;obtain⟨f,o⟩:=this;rw[m]at f;exact⟨y.2,by rw[<-Pp f.z]⟩
 have A:es.findIdx? (λz=>(z.born:Int)==(e.born:Int))=some i:=by
  rw[Array.findIdx?_eq_some_iff_getElem];have s:es[i]=e:=by
   rw[WY O]at p;exact Option.some.inj p
  refine⟨O,by rw[s];simp,λj hj=>?_⟩;have r:j<es.size:=Nat.lt_trans hj O;simp only[beq_iff_eq];intro E;have f:(es.toList.map (·.born))[j]?=some e.born:=by
   rw[yE,Yn,WY r];simp only[Ws,Y1];omega
  have o:(es.toList.map (·.born))[i]?=some e.born:=by rw[yE,d];rfl
  have:=(List.getElem?_inj (by rw[yu];simpa using r) B).1 (f.c o.z);omega
 have D:Cz x u L=L.set i (x,u):=by
  unfold Cz;rw[if_pos (PH.2 (yv.2 ⟨(x,v),yd n,rfl⟩)),<-Va t n]
 refine⟨es.modify i λz=>{ z with val:=u },?_,?_,?_⟩
 .simp[Instr.entryStore,gM k,goInt,asInt,asIntOf,A,sM k]
 .rw[D];show List.map _ _=List.map _ _;rw[List.map_set];have C:es.toList.map (λe=>(e.key,e.val))=L.map (λx=>(Bh x.1,x.2)):=l;rw[<-C,WG];apply YH;intro j;rw[yE,Wt,K5,yE];by_cases hj:i=j
  .subst hj;rw[d];simp[O,m]
  simp[hj]
 rw[WG];apply YH;intro j;rw[yE,Wt,yE];by_cases hj:i=j
 .subst hj;rw[d];simp
 simp[hj]
end
structure BD(w:Aa) (b r:Nat) (L:Cc) (todo:Av):Prop where
 Y:∃es clock since seen c0,w.heap[b]?=some (.map es clock)/\FY es.toList L/\(es.toList.map (·.born)).Nodup/\(∀e∈es.toList,e.born<clock)/\w.heap[r]?=some (.mapIter (some b) since seen c0)/\(∀e∈es.toList,e.born<since)/\since<=c0/\c0<=clock/\(leftOf es seen).toList.map (·.key)=todo.map Bh
 nd:(L.map Prod.fst).Nodup
 ok:∀y∈L,A_ w y.1
def BD.map{w b r L c}(h:BD w b r L c):Ao w b L:=by
 obtain⟨es,a,since,seen,i,d,e,f,g,_⟩:=h.Y;exact⟨⟨es,a,d,e,f,g⟩,h.nd,h.ok⟩
theorem BD.len{w b r L a}(h:BD w b r L a):w.heap[r]?≠w.heap[b]?:=by
 obtain⟨es,c,since,seen,e,f,g,i,j,d,_⟩:=h.Y
 grind
def rv{α β:Type}{f:α->β}(a:∀x y,f x=f y->x=y):∀{l:List α},l.Nodup->(l.map f).Nodup:=by grind
def S_{α β:Type}{f:α->β}:∀{l:List α},(l.map f).Nodup->∀{x y:α},x∈l->y∈l->f x=f y->x=y:=by intro l;induction l<;>grind
def BB.bc{w w' p}(h:BB w p)(a:∀(g:Nat)c,w.heap[g]?=some (.cells c 145 (0,0))->w'.heap[g]?=some (.cells c 145 (0,0))):BB w' p:=by grind[BB]
def A_.bc{w w' x}(h:A_ w x)(a:∀(g:Nat)c,w.heap[g]?=some (.cells c 145 (0,0))->w'.heap[g]?=some (.cells c 145 (0,0))):A_ w' x:=⟨h.1.bc a,h.2.1.bc a,h.2.2.bc a⟩
def BB.iter{w w' p}(h:BB w p)(a:∀(g:Nat)c t,w.heap[g]?=some (.cells c t (0,0))->w'.heap[g]?=some (.cells c t (0,0))):BB w' p:=h.bc λg c=>a g c _
def A_.iter{w w' x}(h:A_ w x)(a:∀(g:Nat)c t,w.heap[g]?=some (.cells c t (0,0))->w'.heap[g]?=some (.cells c t (0,0))):A_ w' x:=⟨h.1.iter a,h.2.1.iter a,h.2.2.iter a⟩
def Vd{P w b r L d}(h:BD w b r L d)(ty) :
  (d=[]/\(Instr.next (Pn r) false ty).run P w=.ok (.tuple #[.bool false]) w) ∨
  ∃ x v o f,x∈d/\(x,v)∈L/\(f=w∨f=w.drew)/\(Instr.next (Pn r) false ty).run P w=.ok (.tuple #[.bool true,Bh x,v]) (ChangeMaps.setBlock f r o) /\
   BD (ChangeMaps.setBlock f r o) b r L (d.filter (λy=>decide (y≠x)))/\(Instr.entry (Pn r)).run P (ChangeMaps.setBlock f r o)=.ok (.tuple #[Bh x,v]) (ChangeMaps.setBlock f r o):=by
 obtain⟨es,a,since,seen,W,D,u,p,h4,j,H,h7,h8,m⟩:=h.Y;rcases run_next_at (P:=P) w ty r b since W seen es a j D H h7 with⟨h0,C⟩|⟨e,G,f,R,C⟩
 .left;refine⟨?_,C⟩;have:(leftOf es seen).toList.length=0:=qK;rw[Wb.1 this]at m;cases d with
  |nil=>rfl
  |cons x t=>simp at m
 right;have l:e∈es.toList:=by
  have:=G;simp only[leftOf,Ka,yh]at this;exact this.1
 have aj:e.key∈d.map Bh:=by rw[<-m];exact yS G
 obtain⟨x,Z,O⟩:=yv.1 aj;have hL:(e.key,e.val)∈L.map (λx=>(Bh x.1,x.2)):=by
  rw[<-show es.toList.map (λe=>(e.key,e.val))=L.map (λx=>(Bh x.1,x.2)) from u];exact yv.2 ⟨e,l,rfl⟩
 obtain⟨y,hy,E⟩:=yv.1 hL;simp only[YF]at E;have au:y.1=x:=Pp (E.1.c O.z);have aq:r≠b:=λB=>by rw[B,D]at j;simp at j
 have n:f.heap=w.heap:=by rcases R with rfl|rfl<;>rfl
 have ao:r<w.heap.size:=by
  have:=j;rw[yk]at this;exact this.1
 have M:(ChangeMaps.setBlock f r (.mapIter (some b) since (seen.push e.born) a)).heap[b]?=some (.map es a):=by
  simp only[ChangeMaps.setBlock,n];rw[Y6 aq];exact D
 have N:(ChangeMaps.setBlock f r (.mapIter (some b) since (seen.push e.born) a)).heap[r]?=some (.mapIter (some b) since (seen.push e.born) a):=by
  simp only[ChangeMaps.setBlock,n];rw[Y8 ao]
 have ar:(es.toList.map (·.key)).Nodup:=by
  have s:es.toList.map (·.key)=(L.map Prod.fst).map Bh:=by
   have:=congrArg (List.map Prod.fst) (show es.toList.map (λe=>(e.key,e.val))=L.map (λx=>(Bh x.1,x.2)) from u);rw[Yl,Yl]at this;rw[Yl];exact this
  rw[s];exact rv (λ_ _ h=>Pp h) h.nd
 have U:∀z∈es.toList,(z.born=e.born↔z.key=e.key):=λz hz=>
  ⟨λq=>by rw[S_ p hz l q],λq=>by rw[S_ ar hz l q]⟩
 refine⟨x,e.val,_,f,Z,by rw[<-au,<-E.2];exact hy,R,by rw[O];exact C,⟨⟨es,a,since,seen.push e.born,a,M,u,p,h4,N,H,qd,yA _,?_⟩,h.nd,?_⟩,?_⟩
 .have s:(leftOf es (seen.push e.born)).toList=(leftOf es seen).toList.filter (λz=>!(z.born==e.born)):=by
   simp only[leftOf,Ka,YC];refine YS λz hz=>?_;rw[Array.contains_push];cases seen.contains z.born<;>cases z.born==e.born<;>rfl
  rw[s];have i:∀{A:Gy}{T:Av},(∀z∈A,z∈es.toList)->A.map (·.key)=T.map Bh->(A.filter (λz=>!(z.born==e.born))).map (·.key)=(T.filter (λy=>decide (y≠x))).map Bh:=by
   intro A
   induction A with
   |nil=>
    intro T _ i;cases T with
    |nil=>rfl
    |cons t T=>simp at i
   |cons z A ih=>
    intro T J i;cases T with
    |nil=>simp at i
    |cons t T=>
     simp only[yx,Yv]at i;have K:=ih (λy hy=>J y Ny) i.2;have hz:=U z (J z qf);by_cases q:z.born=e.born
     .have:t=x:=Pp (i.1.z.c ((hz.1 q).c O.z));rw[yT (by simp[q]),yT (by simp[this])];exact K
     have:t≠x:=λk=>q (hz.2 (by rw[i.1,k,O]));rw[yQ (by simp[q]),yQ (by simp[this]),yx,yx,K,i.1]
  exact i (λz hz=>ug) m
 . intro y hy;exact A_.iter (h.ok y hy) (λg c t I=>by
   simp only[ChangeMaps.setBlock,n];rw[Y6 (λB=>by rw[B,I]at j;simp at j)];exact I)
 rw[O];exact run_entry_at (P:=P) _ r b since seen es a e N M l p
def BU.put{w b}(o):BU (some b) w { w with heap:=w.heap.setIfInBounds b o }:=
 ⟨⟨rfl,rfl,rfl,qf,λg c=>qd⟩,λg _ a=>by
  show(w.heap.setIfInBounds b o)[g]?=w.heap[g]?
  rw[Y6 (λe=>a Ij)]⟩
def A_.aA{w w' b x}(h:A_ w x)(f:BU (some b) w w')(d:∀c t,w.heap[b]?≠some (.cells c t (0,0))):A_ w' x:=
 h.iter λg c t a=>(f.block g (Ap a) (λe=>by injection e with e;subst e;exact d c t a)).c a
theorem A_.e{w w' x}(h:A_ w x)(b:Bw w w'):A_ w' x:=h.iter λg _ _ a=>(b.block g (Ap a)).c a
theorem Ao.lt{w b L}(h:Ao w b L):b<w.heap.size:=by
 obtain⟨es,a,c,_⟩:=h.Y;exact Ap c
def Ao.nc{w b L}(h:Ao w b L):∀c t,w.heap[b]?≠some (.cells c t (0,0)):=λc t e=>by
 obtain⟨es,a,d,_⟩:=h.Y;rw[d]at e;cases e
theorem Ao.e{w w' b L}(h:Ao w b L)(d:Bw w w'):Ao w' b L:=by
 obtain⟨es,a,f,g⟩:=h.Y;exact⟨⟨es,a,(d.block b h.lt).c f,g⟩,h.nd,λy i=>(h.ok y i).e d⟩
def Ao.aA{w w' b g L}(h:Ao w b L)(f:BU (some g) w w')(d:g≠b)(k:∀c t,w.heap[g]?≠some (.cells c t (0,0))):Ao w' b L:=by
 obtain⟨es,a,l,j⟩:=h.Y;exact⟨⟨es,a,(f.block b h.lt (λe=>d MT)).c l,j⟩,h.nd,λy i=>(h.ok y i).aA f k⟩
def gI{x v L}(h:(L.map Prod.fst).Nodup):((Cz x v L).map Prod.fst).Nodup:=by
 cases b:(CW x L).isSome
 .unfold Cz;rw[if_neg (by rw[b];decide),yz,yx,YZ,yL];refine⟨h,qf,λa O c d e=>?_⟩;rw[yw]at d;subst d;subst e;rw[PH.2 O]at b;cases b
 rw[zsG b];exact h
def Zf{x v L y}(h:y∈Cz x v L):y.1=x∨y∈L:=by
 unfold Cz at h;split at h
 .obtain⟨z,a,e⟩:=yv.1 h;split at e
  .exact .inl (by rw[<-e])
  exact .inr (e▸a)
 rcases yp.1 h with h|h
 .exact .inr h
 rw[yw]at h;exact .inl (by rw[h])
def gB{x L}(h:(L.map Prod.fst).Nodup):((Ez x L).map Prod.fst).Nodup:=h.sublist ((Yt).map _)
section
variable {P : Program} {kt pt ft : TypeId} (H : XI P kt pt ft) {w : Aa}
def Zh{mt O:TypeId}(j:P.underlying mt=some (.map kt O)){b:Nat}{L:Cc}(h:Ao w b L){x:Kt}(f:A_ w x)(v:Value):∃w',(Instr.mapUpdate mt (.map (some b)) (Bh x) v).run P w=.ok () w'/\Ao w' b (Cz x v L)/\BU (some b) w w':=by
 obtain⟨o,l,es,a,rfl,g,k,i⟩:=wW H j h f v;have d:BU (some b) w { w with heap:=w.heap.setIfInBounds b (.map es a) }:=BU.put _;refine⟨_,l,⟨⟨es,a,?_,g,k,i⟩,gI h.nd,λy c=>?_⟩,d⟩
 .exact Xh
 rcases Zf c with e|c
 .rw[e];exact f.aA d h.nc
 exact(h.ok y c).aA d h.nc
def U8{mt O ty t2:TypeId}(i:P.underlying mt=some (.map kt O)){b:Nat}{L:Cc}(h:Ao w b L){x:Kt}(d:A_ w x):∃w',(Builtin.delete_ #[mt,t2] ty #[.map (some b),Bh x]).run P w=.ok (.tuple #[]) w'/\Ao w' b (Ez x L)/\BU (some b) w w':=by
 obtain⟨o,k,es,a,rfl,e,j,g⟩:=z_ H (ty:=ty) (t2:=t2) i h d;have c:BU (some b) w { w with heap:=w.heap.setIfInBounds b (.map es a) }:=BU.put _;refine⟨_,k,⟨⟨es,a,?_,e,j,g⟩,gB h.nd,λy f=>?_⟩,c⟩
 .exact Xh
 exact(h.ok y (yh.1 f).1).aA c h.nc
end
end Go.Proofs.YtikojfajahnhgaaGreat
