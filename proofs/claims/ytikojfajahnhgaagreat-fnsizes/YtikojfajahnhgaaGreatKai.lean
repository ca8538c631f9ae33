import Derived.Test.YtikojfajahnhgaaGreatKah
set_option linter.all false
namespace Go.Proofs.YtikojfajahnhgaaGreat
attribute [local simp] At I6 Pn mzI
attribute [local go_sem] At I6 Pn
open Go.RowKit Go.Proofs.Tryz
def b_(_:World)(r:List Value)(x:Int):Prop:=r=[.int .i64 x]
abbrev CU(q:Option Nat)(w:World)(a:Option Addr)(xs:List Int):Prop:=Cr b_ q 3 1 w a xs
def CU.d{q w w' a xs}(h:CU q w a xs)(b:Bw w w'):CU q w' a xs:=Cr.d h (λ_ _ _ h=>h) b
def CU.ah{q w a xs}(h:CU q w a xs):CU none w a xs:=Cr.bV h (λb _=>Qb.ah _ _ b) (λ_ _ _ h=>h)
def CU.get{q w a xs i x}(h:CU q w a xs)(g:xs[i]?=some x):∃b o,a=some ⟨b,o,none⟩/\Qb q w 3 b/\At w b (o+i) (I6 x):=by
 obtain⟨b,o,r,e,c,j,d,f⟩:=h i x g;subst f;exact⟨b,o,e,c,by simpa using d 0 _ rfl⟩
structure Tm where
 u:Int
 op:Int
 A:ByteArray
 val:V
def Tm.R(_:World)(r:List Value)(x:Tm):Prop:=r=[.int .i64 x.u,.int .i64 x.op,.string x.A,.int .i64 x.val.u,.int .i64 x.val.num,.string x.val.J]
abbrev E_(q:Option Nat)(w:World)(a:Option Addr)(xs:List Tm):Prop:=Cr Tm.R q 189 6 w a xs
def E_.d{q w w' a xs}(h:E_ q w a xs)(b:Bw w w'):E_ q w' a xs:=Cr.d h (λ_ _ _ h=>h) b
def E_.ah{q w a xs}(h:E_ q w a xs):E_ none w a xs:=Cr.bV h (λb _=>Qb.ah _ _ b) (λ_ _ _ h=>h)
def E_.get{q w a xs i x}(h:E_ q w a xs)(hi:xs[i]?=some x):∃b o,a=some ⟨b,o,none⟩/\Qb q w 189 b/\At w b (o+i*6) (I6 x.u)/\At w b (o+i*6+1) (I6 x.op)/\At w b (o+i*6+2) (.string x.A)/\At w b (o+i*6+3) (I6 x.val.u)/\At w b (o+i*6+4) (I6 x.val.num)/\At w b (o+i*6+5) (.string x.val.J):=by
 exact nh
def Tm.le(N:Nat)(x:Tm):Prop:=x.A.size<=N/\x.val.J.size<=N
structure Pt where
 neg:Bool
 z:ByteArray
 e:List Tm
def Pt.R(q:Option Nat)(w:World)(r:List Value)(x:Pt):Prop:=∃a_terms c_terms,r=[.bool x.neg,.string x.z,.slice a_terms x.e.length c_terms]/\E_ q w a_terms x.e/\x.e.length<=c_terms
abbrev Ez(q:Option Nat)(w:World)(a:Option Addr)(xs:List Pt):Prop:=Cr (Pt.R q) q 152 3 w a xs
def Ez.d{q w w' a xs}(h:Ez q w a xs)(f:Bw w w'):Ez q w' a xs:=Cr.d h (λ_ _ _⟨b,c,e,O,cp⟩=>⟨b,c,e,O.d f,cp⟩) f
def Ez.ah{q w a xs}(h:Ez q w a xs):Ez none w a xs:=Cr.bV h (λb _=>Qb.ah _ _ b) (λ_ _ _⟨c,d,e,O,cp⟩=>⟨c,d,e,O.ah,cp⟩)
def Ez.get{q w a xs i x}(h:Ez q w a xs)(g:xs[i]?=some x):∃b o c d,a=some ⟨b,o,none⟩/\Qb q w 152 b/\At w b (o+i*3) (.bool x.neg)/\At w b (o+i*3+1) (.string x.z)/\At w b (o+i*3+2) (.slice c x.e.length d)/\E_ q w c x.e:=by
 obtain⟨b,o,r,l,k,m,f,j⟩:=h i x g;obtain⟨c,d,rfl,O,_⟩:=j;exact⟨b,o,c,d,l,k,f 0 _ rfl,f 1 _ rfl,f 2 _ rfl,O⟩
def Ez.ds{q w a xs i x}(h:Ez q w a xs)(g:xs[i]?=some x):∃b o d c,a=some ⟨b,o,none⟩/\Qb q w 152 b/\At w b (o+i*3) (.bool x.neg)/\At w b (o+i*3+1) (.string x.z)/\At w b (o+i*3+2) (.slice d x.e.length c)/\E_ q w d x.e/\x.e.length<=c:=by
 obtain⟨b,o,r,l,k,m,f,j⟩:=h i x g;obtain⟨d,c,rfl,O,cp⟩:=j;exact⟨b,o,d,c,l,k,f 0 _ rfl,f 1 _ rfl,f 2 _ rfl,O,cp⟩
def Pt.le(N:Nat)(x:Pt):Prop:=x.z.size<=N/\EW Tm.le N x.e
structure Ex where
 u:Int
 op:Int
 A:ByteArray
 val:V
 a:Int
 b:Int
def Ex.R(_:World)(r:List Value)(x:Ex):Prop:=r=[.int .i64 x.u,.int .u8 x.op,.string x.A,.int .i64 x.val.u,.int .i64 x.val.num,.string x.val.J,.int .i64 x.a,.int .i64 x.b]
abbrev Dt(q:Option Nat)(w:World)(a:Option Addr)(xs:List Ex):Prop:=Cr Ex.R q 225 8 w a xs
def Dt.d{q w w' a xs}(h:Dt q w a xs)(b:Bw w w'):Dt q w' a xs:=Cr.d h (λ_ _ _ h=>h) b
def Dt.ah{q w a xs}(h:Dt q w a xs):Dt none w a xs:=Cr.bV h (λb _=>Qb.ah _ _ b) (λ_ _ _ h=>h)
def Dt.get{q w a xs i x}(h:Dt q w a xs)(g:xs[i]?=some x):∃b o,a=some ⟨b,o,none⟩/\Qb q w 225 b/\At w b (o+i*8) (I6 x.u)/\At w b (o+i*8+1) (.int .u8 x.op)/\At w b (o+i*8+2) (.string x.A)/\At w b (o+i*8+3) (I6 x.val.u)/\At w b (o+i*8+4) (I6 x.val.num)/\At w b (o+i*8+5) (.string x.val.J)/\At w b (o+i*8+6) (I6 x.a)/\At w b (o+i*8+7) (I6 x.b):=by
 obtain⟨b,o,r,e,d,j,c,f⟩:=h i x g;subst f;exact⟨b,o,e,d,c 0 _ rfl,c 1 _ rfl,c 2 _ rfl,c 3 _ rfl,c 4 _ rfl,c 5 _ rfl,c 6 _ rfl,c 7 _ rfl⟩
def Ex.le(N:Nat)(x:Ex):Prop:=x.A.size<=N/\x.val.J.size<=N
structure Ac where
 u:Int
 k:Int
 z:ByteArray
 args:List Int
def Ac.R(q:Option Nat)(w:World)(r:List Value)(x:Ac):Prop:=∃a_args c_args,r=[.int .i64 x.u,.int .i64 x.k,.string x.z,.slice a_args x.args.length c_args]/\CU q w a_args x.args
abbrev FI(q:Option Nat)(w:World)(a:Option Addr)(xs:List Ac):Prop:=Cr (Ac.R q) q 227 4 w a xs
def FI.d{q w w' a xs}(h:FI q w a xs)(g:Bw w w'):FI q w' a xs:=Cr.d h (λ_ _ _⟨b,c,e,f⟩=>⟨b,c,e,f.d g⟩) g
def FI.ah{q w a xs}(h:FI q w a xs):FI none w a xs:=Cr.bV h (λb _=>Qb.ah _ _ b) (λ_ _ _⟨c,d,e,f⟩=>⟨c,d,e,f.ah⟩)
def FI.get{q w a xs i x}(h:FI q w a xs)(g:xs[i]?=some x):∃b o c d,a=some ⟨b,o,none⟩/\Qb q w 227 b/\At w b (o+i*4) (I6 x.u)/\At w b (o+i*4+1) (I6 x.k)/\At w b (o+i*4+2) (.string x.z)/\At w b (o+i*4+3) (.slice c x.args.length d)/\CU q w c x.args:=by
 obtain⟨b,o,r,m,l,n,f,j⟩:=h i x g;obtain⟨c,d,rfl,e⟩:=j;exact⟨b,o,c,d,m,l,f 0 _ rfl,f 1 _ rfl,f 2 _ rfl,f 3 _ rfl,e⟩
def Ac.le(N:Nat)(x:Ac):Prop:=x.z.size<=N/\x.args.length<=N
structure Ru where
 name:ByteArray
 W:Int
 v:List Pt
 w:List Ex
 E:List Ac
def Ru.R(q:Option Nat)(w:World)(r:List Value)(x:Ru):Prop:=∃a_pats c_pats a_exprs c_exprs a_acts c_acts,r=[.string x.name,.int .i64 x.W,.slice a_pats x.v.length c_pats,.slice a_exprs x.w.length c_exprs,.slice a_acts x.E.length c_acts]/\Ez q w a_pats x.v/\Dt q w a_exprs x.w/\FI q w a_acts x.E/\x.w.length<=c_exprs
abbrev Fa(q:Option Nat)(w:World)(a:Option Addr)(xs:List Ru):Prop:=Cr (Ru.R q) q 53 5 w a xs
def Fa.d{q w w' a xs}(h:Fa q w a xs)(l:Bw w w'):Fa q w' a xs:=Cr.d h (λ_ _ _⟨g,k,c,b,i,j,e,n,f,m,O⟩=>⟨g,k,c,b,i,j,e,n.d l,f.d l,m.d l,O⟩) l
def Fa.get{q w a xs i x}(h:Fa q w a xs)(m:xs[i]?=some x):∃b o e j c d f g,a=some ⟨b,o,none⟩/\Qb q w 53 b/\At w b (o+i*5) (.string x.name)/\At w b (o+i*5+1) (I6 x.W)/\At w b (o+i*5+2) (.slice e x.v.length j)/\At w b (o+i*5+3) (.slice c x.w.length d)/\At w b (o+i*5+4) (.slice f x.E.length g)/\Ez q w e x.v/\Dt q w c x.w/\FI q w f x.E/\x.w.length<=d:=by
 obtain⟨b,o,r,s,p,y,l,n⟩:=h i x m;obtain⟨e,j,c,d,f,g,rfl,u,k,t,O⟩:=n;exact⟨b,o,e,j,c,d,f,g,s,p,l 0 _ rfl,l 1 _ rfl,l 2 _ rfl,l 3 _ rfl,l 4 _ rfl,u,k,t,O⟩
def Ru.le(N:Nat)(x:Ru):Prop:=x.name.size<=N/\EW Pt.le N x.v/\EW Ex.le N x.w/\EW Ac.le N x.E
end Go.Proofs.YtikojfajahnhgaaGreat
