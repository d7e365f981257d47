import Derived.Laws.Strings
import Derived.Test.YtaahkgkdpnnhhaaGreatSh0
set_option linter.all false
namespace Go.Proofs.YtaahkgkdpnnhhaaGreat.Fo
abbrev E3:=ByteArray×ByteArray×Int
abbrev e0:E3:=(.empty,.empty,0)
abbrev Nd:=Int×List E3
structure fZ where
 roots:List (Int×Int)
 next:Int
 gen:Int
 nodes:Nat→Option Nd
 cur:List Int
 com:List Int
 table:List Int
def cu(f:fZ)(b:Nat):Int:=f.cur.getD b 0
def co(f:fZ)(b:Nat):Int:=f.com.getD b 0
def look(f:fZ)(b:Nat):Nd:=(f.nodes b).getD (0,[])
def ch(e:E3):Nat:=e.2.2.toNat
def kids(d:Nd):List Nat:=if d.1=2 then d.2.map ch else []
def bZ:Option Nd→List Nat
 | none=>[]
 | some d=>kids d
def upd{α:Type}(g:Nat→α)(b:Nat)(v:α):Nat→α:=fun x=>if x=b then v else g x
theorem aD{α:Type}(g:Nat→α)(b:Nat)(v:α):upd g b v b=v:=by simp[upd]
theorem aC{α:Type}(g:Nat→α){b x:Nat}(v:α)(h:x≠b):upd g b v x=g x:=by simp[upd,h]
def cQ:Nat→(Nat→Nat)→Nat
 | 0,_=>0
 | n+1,g=>cQ n g+g n
theorem pS{n:Nat}{g g':Nat→Nat}(h:∀x,x<n→g x=g' x):cQ n g=cQ n g':=by
 induction n with
 | zero=>rfl
 | succ n ih=>simp only[cQ];rw[ih fun x hx=>h x (by omega),h n (by omega)]
theorem lW{n:Nat}{g g':Nat→Nat}{b:Nat}(hb:b<n)(h:∀x,x≠b→g' x=g x):cQ n g'+g b=cQ n g+g' b:=by
 induction n with
 | zero=>omega
 | succ n ih=>
  simp only[cQ];by_cases e:b=n
  ·subst e
   rw[pS (g:=g') (g':=g) fun x hx=>h x (by omega)];omega
  ·have:=ih (by omega)
   rw[h n (fun q=>e q.symm)];omega
theorem oF{n:Nat}{g:Nat→Nat}{b:Nat}(hb:b<n):g b≤cQ n g:=by
 induction n with
 | zero=>omega
 | succ n ih=>
  simp only[cQ];by_cases e:b=n
  ·subst e;omega
  ·have:=ih (by omega);omega
theorem aFG{n:Nat}{g:Nat→Nat}{a b:Nat}(ha:a<n)(hb:b<n)(pn:a≠b):g a+g b≤cQ n g:=by
 induction n with
 | zero=>omega
 | succ n ih=>
  simp only[cQ];by_cases e:b=n
  ·subst e;have:=oF (g:=g) (show a<b by omega);omega
  ·by_cases e':a=n
   ·subst e';have:=oF (g:=g) (show b<a by omega);omega
   ·have:=ih (by omega) (by omega);omega
theorem jP{n:Nat}{g:Nat→Nat}(h:0<cQ n g):∃x,x<n∧0<g x:=by
 induction n with
 | zero=>simp[cQ]at h
 | succ n ih=>
  simp only[cQ]at h;by_cases e:0<g n
  ·exact⟨n,by omega,e⟩
  ·obtain⟨x,hx,hg⟩:=ih (by omega);exact⟨x,by omega,hg⟩
def deg(nodes:Nat→Option Nd)(n b:Nat):Nat:=cQ n fun x=>(bZ (nodes x)).count b
def rc(roots:List (Int×Int))(b:Nat):Nat:=(roots.map fun r=>r.2.toNat).count b
theorem wG(nodes:Nat→Option Nd){n x:Nat}(v:Option Nd)(hx:x<n)(b:Nat):deg (upd nodes x v) n b+(bZ (nodes x)).count b=deg nodes n b+(bZ v).count b:=by
 have:=lW (n:=n) (g:=fun y=>(bZ (nodes y)).count b) (g':=fun y=>(bZ (upd nodes x v y)).count b) hx (fun y hy=>by simp only[aC _ _ hy])
 simpa [deg,aD] using this
theorem eL(l:List Int)(i j:Nat)(v:Int):(l.set i v).getD j 0=if i=j∧i<l.length then v else l.getD j 0:=by
 simp only[gD,List.getElem?_set];by_cases h:i=j
 ·subst h
  by_cases h2:i<l.length
  ·simp[h2]
  ·simp[h2]
 ·simp[h]
def iI(c:List Int):List Nat→List Int
 | []=>c
 | k :: l=>iI (c.set k (c.getD k 0+1)) l
theorem mM(l:List Nat)(c:List Int):(iI c l).length=c.length:=by
 induction l generalizing c with
 | nil=>rfl
 | cons k l ih=>simp only[iI];rw[ih];simp
theorem rQ(l:List Nat)(c:List Int)(h:∀k∈l,k<c.length)(b:Nat):(iI c l).getD b 0=c.getD b 0+(l.count b:Nat):=by
 induction l generalizing c with
 | nil=>simp[iI]
 | cons k l ih=>
  simp only[iI];rw[ih _ (fun x hx=>by simpa using h x (List.mem_cons_of_mem _ hx)),eL,List.count_cons];have hk:k<c.length:=h k (by simp);by_cases e:k=b
  ·subst e;simp[hk];omega
  ·simp[e]
def df(f:fZ)(x:Nat):Int:=cu f x -((rc f.roots x+deg f.nodes f.cur.length x:Nat):Int)
def setN(f:fZ)(b:Nat)(d:Nd):fZ:={f with nodes:=upd f.nodes b (some d)}
def takeAt(f:fZ)(q:Nat)(d:Nd):fZ:={f with nodes:=upd f.nodes q (some d),cur:=f.cur.set q 1}
def freeB(f:fZ)(b:Nat):fZ:={f with nodes:=upd f.nodes b none,cur:=f.cur.set b 0}
def letGo(f:fZ)(b:Nat):fZ:=
 if cu f b=1 then freeB f b else {f with cur:=iI (f.cur.set b (cu f b-1)) (bZ (f.nodes b))}
abbrev Loc:=Sum Nat (Nat×Nat)
abbrev Loc.root(t:Nat):Loc:=.inl t
abbrev Loc.ent(b i:Nat):Loc:=.inr (b,i)
def setE(d:Nd)(i:Nat)(q:Nat):Nd:=(d.1,d.2.set i ((d.2.getD i e0).1,(d.2.getD i e0).2.1,(q:Int)))
def bJ(f:fZ):Loc→Nat
 | .inl t=>(f.roots.getD t (0,0)).2.toNat
 | .inr (b,i)=>ch ((look f b).2.getD i e0)
def setL(f:fZ)(L:Loc)(q:Nat):fZ:=match L with
 | .inl t=>{f with roots:=f.roots.set t ((f.roots.getD t (0,0)).1,(q:Int))}
 | .inr (b,i)=>setN f b (setE (look f b) i q)
def one(b x:Nat):Nat:=if b=x then 1 else 0
theorem cA(b:Nat):one b b=1:=by simp[one]
theorem fU{b x:Nat}(h:b≠x):one b x=0:=by simp[one,h]
theorem fE(f:fZ)(q x:Nat)(v:Int)(hq:q<f.cur.length):(f.cur.set q v).getD x 0=if q=x then v else cu f x:=by
 rw[eL];simp[hq,cu]
theorem gB{f:fZ}{b:Nat}{d d':Nd}(hb:b<f.cur.length)(hd:f.nodes b=some d)(x:Nat):
  df (setN f b d') x=df f x+((kids d).count x:Int) -((kids d').count x:Int):=by
 have:=wG f.nodes (some d') hb x
 rw[hd]at this;simp only[bZ]at this;simp only[df,setN,cu];omega
theorem lQ{f:fZ}{q:Nat}{d:Nd}(hq:q<f.cur.length)(hn:f.nodes q=none)(hc:cu f q=0)(x:Nat):
  df (takeAt f q d) x=df f x+(one q x:Int) -((kids d).count x:Int):=by
 have:=wG f.nodes (some d) hq x
 rw[hn]at this;simp only[bZ,List.count_nil]at this;have hg:=fE f q x 1 hq;simp only[df,takeAt,cu,List.length_set]at *;rw[hg];by_cases e:q=x
 ·subst e;rw[if_pos rfl,cA];omega
 ·rw[if_neg e,fU e];omega
theorem rD{f:fZ}{b:Nat}{d:Nd}(hb:b<f.cur.length)(hd:f.nodes b=some d)(hc:cu f b=1)(x:Nat):
  df (freeB f b) x=df f x -(one b x:Int)+((kids d).count x:Int):=by
 have:=wG f.nodes none hb x
 rw[hd]at this;simp only[bZ,List.count_nil]at this;have hg:=fE f b x 0 hb;simp only[df,freeB,cu,List.length_set]at *;rw[hg];by_cases e:b=x
 ·subst e;rw[if_pos rfl,cA];omega
 ·rw[if_neg e,fU e];omega
theorem yG{f:fZ}{b:Nat}{d:Nd}(hb:b<f.cur.length)(hd:f.nodes b=some d)(hk:∀c∈kids d,c<f.cur.length)(x:Nat):
  df (letGo f b) x=df f x -(one b x:Int)+((kids d).count x:Int):=by
 unfold letGo;by_cases hc:cu f b=1
 ·rw[if_pos hc];exact rD hb hd hc x
 ·rw[if_neg hc,hd]
  simp only[bZ,df,cu,mM,List.length_set];rw[rQ _ _ (fun k qr=>by simpa using hk k qr)];have hg:=fE f b x (cu f b-1) hb;simp only[cu]at hg;rw[hg];by_cases e:b=x
  ·subst e;rw[if_pos rfl,cA];omega
  ·rw[if_neg e,fU e];omega
theorem count_set{l:List Nat}{i:Nat}(v x:Nat)(hi:i<l.length):(l.set i v).count x+(one (l.getD i 0) x)=l.count x+(one v x):=by
 induction l generalizing i with
 | nil=>simp at hi
 | cons a l ih=>
  cases i with
  | zero=>simp only[List.set_cons_zero,List.count_cons,List.getD_cons_zero,beq_iff_eq,one];omega
  | succ i=>
   simp only[List.set_cons_succ,List.count_cons,List.getD_cons_succ];have:=ih (i:=i) (by simpa using hi);omega
theorem gJ(l:List E3)(i:Nat)(h:i<l.length):(l.map ch).getD i 0=ch (l.getD i e0):=by
 simp[gD,h]
theorem aGE(l:List E3)(i q:Nat):(l.set i ((l.getD i e0).1,(l.getD i e0).2.1,(q:Int))).map ch=(l.map ch).set i q:=by
 rw[List.map_set];congr 1
theorem aEG{d:Nd}(h2:d.1=2)(i q x:Nat)(hi:i<d.2.length):
  ((kids (setE d i q)).count x:Nat)+(one (ch (d.2.getD i e0)) x)=(kids d).count x+(one q x):=by
 simp only[kids,setE,h2,if_true];rw[aGE];have:=count_set (l:=d.2.map ch) (i:=i) q x (by simpa using hi);rw[gJ _ _ hi]at this;exact this
def dO(f:fZ):Loc→Prop
 | .inl t=>t<f.roots.length
 | .inr (b,i)=>b<f.cur.length∧∃es,f.nodes b=some (2,es)∧i<es.length
theorem aMA{rs:List (Int×Int)}{t:Nat}(q x:Nat)(a:Int)(ht:t<rs.length):rc (rs.set t (a,(q:Int))) x+(one ((rs.getD t (0,0)).2.toNat) x)=rc rs x+(one q x):=by
 simp only[rc,List.map_set,Int.toNat_natCast];have:=count_set (l:=rs.map fun r=>r.2.toNat) (i:=t) q x (by simpa using ht);rw[←this];congr 2;simp[gD,ht]
theorem wH{f:fZ}{L:Loc}{b:Nat}(h:dO f L)(hb:bJ f L=b)(q x:Nat):
  df (setL f L q) x=df f x+(one b x:Int) -(one q x:Int):=by
 subst hb;cases L with
 | inl t=>
  have:=aMA (rs:=f.roots) q x (f.roots.getD t (0,0)).1 h
  simp only[df,setL,cu,bJ]at *;omega
 | inr bi=>
  obtain⟨b,i⟩:=bi;obtain⟨hb,es,he,hi⟩:=h;have hl:look f b=(2,es):=by simp[look,he]
  have h1:=gB (d':=setE (2,es) i q) hb he x;have h2:=aEG (d:=(2,es)) rfl i q x hi;simp only[setL,bJ,hl];simp only at h2;rw[h1];omega
def kL(n:Nat)(d:Nd):Prop:=d.1=1∨(d.1=2∧d.2≠[]∧∀e∈d.2,0≤e.2.2∧ch e<n)
def HtN(ht:Nat→Nat)(v:Nat)(d:Nd):Prop:=(d.1=1∧v=0)∨(d.1=2∧∀c∈kids d,ht c+1=v)
def Hts(nodes:Nat→Option Nd)(ht:Nat→Nat):Prop:=∀b d,nodes b=some d→HtN ht (ht b) d
structure Dom(f:fZ):Prop where
 dead:∀b,f.nodes b=none↔cu f b=0
 pos:∀b,0≤cu f b
def KB(f:fZ):Prop:=∀b d,f.nodes b=some d→kL f.cur.length d
def RB(f:fZ):Prop:=∀r∈f.roots,0≤r.2∧r.2.toNat<f.cur.length
structure IC(f:fZ):Prop where
 n8:8≤f.cur.length
 n512:f.cur.length≤512
 len:f.com.length=f.cur.length
 D0:∀x,x<f.cur.length→df f x=0
 dom:Dom f
 two:∀b,b<2→f.nodes b=none
 rb:RB f
 kb:KB f
 ht:∃ht,Hts f.nodes ht
theorem kL.kid{n:Nat}{d:Nd}(h:kL n d){c:Nat}(hc:c∈kids d):c<n:=by
 rcases h with h | ⟨h,_,h'⟩
 ·simp[kids,h]at hc
 ·simp only[kids,h,if_true,List.mem_map]at hc
  obtain⟨e,he,rfl⟩:=hc;exact(h' e he).2
theorem wF{f:fZ}{b:Nat}(h:f.cur.length≤b):cu f b=0:=by
 simp[cu,gD,h]
theorem aAT{nodes:Nat→Option Nd}{n b c:Nat}{d:Nd}(hd:nodes b=some d)(hb:b<n):(kids d).count c≤deg nodes n c:=by
 have:=oF (g:=fun x=>(bZ (nodes x)).count c) hb
 have e:(bZ (nodes b)).count c=(kids d).count c:=by rw[hd];rfl
 rw[←e];exact this
theorem aJK{nodes:Nat→Option Nd}{n a b c:Nat}{d d':Nd}(hd:nodes a=some d)(ha:a<n)(gd:nodes b=some d')(hb:b<n)(pn:a≠b):(kids d).count c+(kids d').count c≤deg nodes n c:=by
 have:=aFG (g:=fun x=>(bZ (nodes x)).count c) ha hb pn
 have e:(bZ (nodes a)).count c=(kids d).count c:=by rw[hd];rfl
 have e':(bZ (nodes b)).count c=(kids d').count c:=by rw[gd];rfl
 rw[←e,←e'];exact this
theorem IC.lt{f:fZ}(h:IC f){b:Nat}{d:Nd}(hd:f.nodes b=some d):b<f.cur.length:=by
 refine Nat.lt_of_not_le fun hl=>?_;have:=(h.dom.dead b).2 (wF hl);rw[hd]at this;cases this
theorem IC.ge2{f:fZ}(h:IC f){b:Nat}{d:Nd}(hd:f.nodes b=some d):2≤b:=by
 refine Nat.le_of_not_lt fun hl=>?_;have:=h.two b hl;rw[hd]at this;cases this
theorem IC.names{f:fZ}(h:IC f){x:Nat}(hx:x<f.cur.length):cu f x=((rc f.roots x+deg f.nodes f.cur.length x:Nat):Int):=by
 have:=h.D0 x hx;unfold df at this;omega
theorem IC.live{f:fZ}(h:IC f){x:Nat}(hx:0<cu f x):∃d,f.nodes x=some d:=by
 cases e:f.nodes x with
 | none=>have:=(h.dom.dead x).1 e;omega
 | some d=>exact⟨d,rfl⟩
theorem IC.cu_pos{f:fZ}(h:IC f){b:Nat}{d:Nd}(hd:f.nodes b=some d):0<cu f b:=by
 have h1:=h.dom.pos b;have h2:cu f b≠0:=fun e=>by have:=(h.dom.dead b).2 e;rw[hd]at this;cases this
 omega
theorem IC.kid_lt{f:fZ}(h:IC f){b c:Nat}{d:Nd}(hd:f.nodes b=some d)(hc:c∈kids d):c<f.cur.length:=(h.kb b d hd).kid hc
theorem IC.kid_live{f:fZ}(h:IC f){b c:Nat}{d:Nd}(hd:f.nodes b=some d)(hc:c∈kids d):∃d',f.nodes c=some d':=by
 have hn:=h.kid_lt hd hc;refine h.live ?_;rw[h.names hn];have h1:0 <(kids d).count c:=List.count_pos_iff.2 hc;have:=aAT (c:=c) hd (h.lt hd);omega
theorem IC.root_live{f:fZ}(h:IC f){r:Int×Int}(hr:r∈f.roots):∃d,f.nodes r.2.toNat=some d:=by
 refine h.live ?_;rw[h.names (h.rb r hr).2];have:0<rc f.roots r.2.toNat:=List.count_pos_iff.2 (List.mem_map_of_mem hr);omega
theorem IC.only{f:fZ}(h:IC f){b c:Nat}{d:Nd}(h1:cu f c=1)(hd:f.nodes b=some d)(hc:c∈kids d):
  rc f.roots c=0∧(kids d).count c=1∧∀b' d',f.nodes b'=some d'→c∈kids d'→b'=b:=by
 have hn:=h.names (h.kid_lt hd hc);have k1:0 <(kids d).count c:=List.count_pos_iff.2 hc;have k2:=aAT (c:=c) hd (h.lt hd);refine⟨by omega,by omega,fun b' d' gd bo=>?_⟩;by_cases e:b'=b
 ·exact e
 ·have k3:=aJK (c:=c) gd (h.lt gd) hd (h.lt hd) e
  have k4:0 <(kids d').count c:=List.count_pos_iff.2 bo;omega
theorem IC.onlyRoot{f:fZ}(h:IC f){r:Int×Int}(hr:r∈f.roots)(h1:cu f r.2.toNat=1):rc f.roots r.2.toNat=1∧∀b d,f.nodes b=some d→r.2.toNat∉kids d:=by
 have hn:=h.names (h.rb r hr).2;have k1:0<rc f.roots r.2.toNat:=List.count_pos_iff.2 (List.mem_map_of_mem hr);refine⟨by omega,fun b d hd hc=>?_⟩;have k2:=aAT (c:=r.2.toNat) hd (h.lt hd);have k3:0 <(kids d).count r.2.toNat:=List.count_pos_iff.2 hc;omega
theorem IC.not_self{f:fZ}(h:IC f){b:Nat}{d:Nd}(hd:f.nodes b=some d):b∉kids d:=by
 obtain⟨ht,hh⟩:=h.ht;intro hb;rcases hh b d hd with⟨h1,_⟩ | ⟨_,h2⟩
 ·simp[kids,h1]at hb
 ·have:=h2 b hb;omega
theorem IC.dead_kid{f:fZ}(h:IC f){q b:Nat}{d:Nd}(hq:f.nodes q=none)(hd:f.nodes b=some d):q∉kids d:=fun hc=>by
 obtain⟨d',h'⟩:=h.kid_live hd hc;rw[hq]at h';cases h'
theorem HtN.congr{ht uu:Nat→Nat}{v:Nat}{d:Nd}(h:HtN ht v d)(hk:∀c∈kids d,uu c=ht c):HtN uu v d:=by
 rcases h with h | ⟨h1,h2⟩
 ·exact .inl h
 ·exact .inr ⟨h1,fun c hc=>by rw[hk c hc];exact h2 c hc⟩
theorem Hts.dead{nodes:Nat→Option Nd}{ht:Nat→Nat}(h:Hts nodes ht){q v:Nat}{d:Nd}(hq:∀b d,nodes b=some d→q∉kids d)(hd:HtN ht v d)(hs:q∉kids d):Hts (upd nodes q (some d)) (upd ht q v):=by
 intro b d' hb;by_cases e:b=q
 ·subst e
  rw[aD]at hb ⊢;cases hb;exact hd.congr fun c hc=>aC _ _ (fun e=>hs (e▸hc))
 ·rw[aC _ _ e]at hb ⊢
  exact(h b d' hb).congr fun c hc=>aC _ _ (fun e=>hq b d' hb (e▸hc))
theorem Hts.same{nodes:Nat→Option Nd}{ht:Nat→Nat}(h:Hts nodes ht){b:Nat}{d:Nd}(hd:HtN ht (ht b) d):Hts (upd nodes b (some d)) ht:=by
 intro x d' hx;by_cases e:x=b
 ·subst e;rw[aD]at hx;cases hx;exact hd
 ·rw[aC _ _ e]at hx;exact h x d' hx
theorem Hts.gone{nodes:Nat→Option Nd}{ht:Nat→Nat}(h:Hts nodes ht)(b:Nat):Hts (upd nodes b none) ht:=by
 intro x d' hx;by_cases e:x=b
 ·subst e;rw[aD]at hx;cases hx
 ·rw[aC _ _ e]at hx;exact h x d' hx
theorem Dom.setN{f:fZ}(h:Dom f){b:Nat}{d d':Nd}(hd:f.nodes b=some d):Dom (setN f b d'):=by
 refine⟨fun x=>?_,h.pos⟩;show upd f.nodes b (some d') x=none↔cu f x=0
 by_cases e:x=b
 ·subst e;rw[aD,←h.dead x,hd];simp
 ·rw[aC _ _ e];exact h.dead x
theorem Dom.takeAt{f:fZ}(h:Dom f){q:Nat}{d:Nd}(hq:q<f.cur.length):Dom (takeAt f q d):=by
 have hg:∀x,cu (Fo.takeAt f q d) x=if q=x then 1 else cu f x:=fun x=>fE f q x 1 hq;refine⟨fun x=>?_,fun x=>?_⟩
 ·rw[hg]
  show upd f.nodes q (some d) x=none↔_
  by_cases e:x=q
  ·subst e;rw[aD];simp
  ·rw[aC _ _ e,if_neg (Ne.symm e)];exact h.dead x
 ·rw[hg];have:=h.pos x;split<;>omega
theorem Dom.freeB{f:fZ}(h:Dom f){b:Nat}(hb:b<f.cur.length):Dom (freeB f b):=by
 have hg:∀x,cu (Fo.freeB f b) x=if b=x then 0 else cu f x:=fun x=>fE f b x 0 hb;refine⟨fun x=>?_,fun x=>?_⟩
 ·rw[hg]
  show upd f.nodes b none x=none↔_
  by_cases e:x=b
  ·subst e;rw[aD];simp
  ·rw[aC _ _ e,if_neg (Ne.symm e)];exact h.dead x
 ·rw[hg];have:=h.pos x;split<;>omega
theorem qX{f:fZ}{b:Nat}{d:Nd}(hb:b<f.cur.length)(hd:f.nodes b=some d)(hk:∀c∈kids d,c<f.cur.length)(h1:cu f b≠1)(x:Nat):
  cu (letGo f b) x=(if b=x then cu f b-1 else cu f x)+((kids d).count x:Int):=by
 unfold letGo;rw[if_neg h1,hd];simp only[bZ,cu];rw[rQ _ _ (fun k qr=>by simpa using hk k qr)];have hg:=fE f b x (cu f b-1) hb;simp only[cu]at hg;rw[hg]
theorem Dom.letGo{f:fZ}(h:Dom f){b:Nat}{d:Nd}(hb:b<f.cur.length)(hd:f.nodes b=some d)(hk:∀c∈kids d,c<f.cur.length∧f.nodes c≠none):Dom (letGo f b):=by
 by_cases hc:cu f b=1
 ·have e:Fo.letGo f b=Fo.freeB f b:=by unfold Fo.letGo;rw[if_pos hc]
  rw[e];exact h.freeB hb
 ·have hg:=qX hb hd (fun c hc=>(hk c hc).1) hc
  have e:(Fo.letGo f b).nodes=f.nodes:=by unfold Fo.letGo;rw[if_neg hc]
  have p0:=h.pos b;have p1:cu f b≠0:=fun e=>by have:=(h.dead b).2 e;rw[hd]at this;cases this
  refine⟨fun x=>?_,fun x=>?_⟩
  ·rw[e,hg]
   by_cases eb:b=x
   ·subst eb;rw[if_pos rfl,hd];constructor
    ·intro q;cases q
    ·intro q;omega
   ·rw[if_neg eb]
    have px:=h.pos x;constructor
    ·intro q
     have:(kids d).count x=0:=List.count_eq_zero.2 fun hm=>(hk x hm).2 q
     have:=(h.dead x).1 q
     omega
    ·intro q;exact(h.dead x).2 (by omega)
  ·rw[hg];have px:=h.pos x;split<;>omega
theorem aE{f:fZ}{b:Nat}{d:Nd}(h:f.nodes b=some d):look f b=d:=by simp[look,h]
theorem gY(f:fZ)(b:Nat):(letGo f b).cur.length=f.cur.length:=by
 unfold letGo;split
 ·simp[freeB]
 ·simp[mM]
theorem bG(f:fZ)(L:Loc)(q:Nat):(setL f L q).cur=f.cur:=by cases L<;>rfl
theorem cP(f:fZ)(b:Nat):(letGo f b).nodes=if cu f b=1 then upd f.nodes b none else f.nodes:=by
 unfold letGo;split<;>rfl
theorem lO(f:fZ)(b:Nat):(letGo f b).com=f.com:=by unfold letGo;split<;>rfl
theorem yC(f:fZ)(L:Loc)(q:Nat):(setL f L q).com=f.com:=by cases L<;>rfl
theorem dS(f:fZ)(b:Nat):(letGo f b).roots=f.roots:=by unfold letGo;split<;>rfl
theorem KB.letGo{f:fZ}(h:KB f)(b:Nat):KB (letGo f b):=by
 intro x d hx;rw[gY];rw[cP]at hx;split at hx
 ·by_cases e:x=b
  ·subst e;rw[aD]at hx;cases hx
  ·rw[aC _ _ e]at hx;exact h x d hx
 ·exact h x d hx
theorem Hts.letGo{f:fZ}{ht:Nat→Nat}(h:Hts f.nodes ht)(b:Nat):Hts (letGo f b).nodes ht:=by
 rw[cP];split
 ·exact h.gone b
 ·exact h
theorem KB.upd{nodes:Nat→Option Nd}{n b:Nat}{d:Nd}(h:∀x e,nodes x=some e→kL n e)(hd:kL n d):∀x e,upd nodes b (some d) x=some e→kL n e:=by
 intro x e hx;by_cases q:x=b
 ·subst q;rw[aD]at hx;cases hx;exact hd
 ·rw[aC _ _ q]at hx;exact h x e hx
theorem qN{α:Type}{l:List α}{i:Nat}{v x:α}(h:x∈l.set i v):x=v∨x∈l:=by
 rcases List.mem_or_eq_of_mem_set h with q | q
 ·exact .inr q
 ·exact .inl q
theorem kL.setE{n:Nat}{d:Nd}(h:kL n d)(h2:d.1=2)(i q:Nat)(hq:q<n):kL n (setE d i q):=by
 rcases h with h | ⟨_,h3,h4⟩
 ·omega
 ·refine .inr ⟨h2,?_,?_⟩
  ·simp[Fo.setE,h3]
  ·intro e he
   rcases qN he with rfl | he
   ·exact⟨by simp,by simpa [ch] using hq⟩
   ·exact h4 e he
theorem uA{d:Nd}(h2:d.1=2){i q c:Nat}(h:c∈kids (setE d i q)):c=q∨c∈kids d:=by
 simp only[kids,setE,h2,if_true]at h ⊢;rw[aGE]at h;exact qN h
theorem gL{es:List E3}{i:Nat}(hi:i<es.length):ch (es.getD i e0)∈kids (2,es):=by
 simp only[kids,if_true,List.mem_map];refine⟨es.getD i e0,?_,rfl⟩;rw[gD,gE hi];exact List.getElem_mem hi
def shadowAt(f:fZ)(L:Loc)(q:Nat):fZ:=letGo (setL (takeAt f q (look f (bJ f L))) L q) (bJ f L)
theorem fH(f:fZ)(q:Nat)(d:Nd):(takeAt f q d).nodes=upd f.nodes q (some d):=rfl
theorem dQ{f:fZ}{q:Nat}(d:Nd)(hq:q<f.cur.length)(x:Nat):cu (takeAt f q d) x=if q=x then 1 else cu f x:=fE f q x 1 hq
def cpN(f:fZ)(L:Loc)(q:Nat)(d:Nd):Nat→Option Nd:=match L with
 | .inl _=>upd f.nodes q (some d)
 | .inr (p,i)=>upd (upd f.nodes q (some d)) p (some (setE (look f p) i q))
def shN(f:fZ)(L:Loc)(q b:Nat)(d:Nd):Nat→Option Nd:=if cu f b=1 then upd (cpN f L q d) b none else cpN f L q d
theorem IC.shadow{f:fZ}(h:IC f){L:Loc}(hL:dO f L){b:Nat}(hb:bJ f L=b){d:Nd}(hd:f.nodes b=some d){q:Nat}(h9:2≤q)(mj:q<f.cur.length)(hc:cu f q=0):
  IC (shadowAt f L q)∧(shadowAt f L q).nodes=shN f L q b d∧(shadowAt f L q).cur.length=f.cur.length∧(shadowAt f L q).com=f.com∧cu (shadowAt f L q) q=1:=by
 have dh:f.nodes q=none:=(h.dom.dead q).2 hc;have mh:b≠q:=fun e=>by rw[e,dh]at hd;cases hd
 have sm:=h.lt hd;have tg:∀c∈kids d,c<f.cur.length:=fun c=>h.kid_lt hd;have NA:q∉kids d:=h.dead_kid dh hd;obtain⟨ht,Qw⟩:=h.ht;have S1:Hts (takeAt f q d).nodes (upd ht q (ht b)):=Qw.dead (fun y e hy=>h.dead_kid dh hy) (Qw b d hd) NA;have sw:∀x e,(takeAt f q d).nodes x=some e→kL f.cur.length e:=KB.upd h.kb (h.kb b d hd);have Gc:Dom (takeAt f q d):=h.dom.takeAt mj;have ed:(takeAt f q d).cur.length=f.cur.length:=by simp[takeAt]
 have ao:(takeAt f q d).nodes b=some d:=by rw[fH,aC _ _ mh];exact hd
 have key:dO (takeAt f q d) L∧bJ (takeAt f q d) L=b∧Dom (setL (takeAt f q d) L q)∧KB (setL (takeAt f q d) L q)∧Hts (setL (takeAt f q d) L q).nodes (upd ht q (ht b))∧RB (setL (takeAt f q d) L q)∧(setL (takeAt f q d) L q).nodes b=some d∧(∀c,(takeAt f q d).nodes c≠none→(setL (takeAt f q d) L q).nodes c≠none)∧(∀c,c<2→(setL (takeAt f q d) L q).nodes c=none)∧(setL (takeAt f q d) L q).nodes=cpN f L q d:=by
  cases L with
  | inl t=>
   refine⟨hL,hb,⟨Gc.dead,Gc.pos⟩,fun x e hx=>by rw[bG,ed];exact sw x e hx,S1,?_,ao,fun c hc=>hc,fun c hc=>?_,rfl⟩
   ·intro r hr
    rw[bG,ed];rcases qN hr with rfl | hr
    ·exact⟨by simp,by simpa using mj⟩
    ·exact h.rb r hr
   ·show upd f.nodes q (some d) c=none
    rw[aC _ _ (by omega)];exact h.two c hc
  | inr bi=>
   obtain⟨p,i⟩:=bi;obtain⟨hp,es,he,hi⟩:=hL;have Rb:p≠q:=fun e=>by rw[e,dh]at he;cases he
   have G7:(takeAt f q d).nodes p=some (2,es):=by rw[fH,aC _ _ Rb];exact he
   have hl:look (takeAt f q d) p=(2,es):=aE G7;have Au:look f p=(2,es):=aE he;have qa:b∈kids (2,es):=by
    rw[←hb];simp only[bJ,Au];exact gL hi
   have qt:p≠b:=fun e=>h.not_self he (e▸qa);refine⟨⟨by rw[ed];exact hp,es,G7,hi⟩,?_,?_,?_,?_,?_,?_,?_,?_,?_⟩
   ·simp only[bJ,hl];rw[←hb];simp only[bJ,Au]
   ·simp only[setL];exact Gc.setN G7
   ·intro x e hx
    simp only[setL,hl]at hx;have:(setL (takeAt f q d) (.ent p i) q).cur.length=f.cur.length:=by rw[bG,ed]
    rw[this];exact KB.upd sw ((h.kb p _ he).setE rfl i q mj) x e hx
   ·simp only[setL,hl]
    refine S1.same ?_;rw[aC _ _ Rb];rcases Qw p _ he with⟨q1,_⟩ | ⟨_,q2⟩
    ·simp at q1
    ·refine .inr ⟨rfl,fun c hc=>?_⟩
     rcases uA rfl hc with rfl | hc
     ·rw[aD];exact q2 b qa
     ·rw[aC _ _ (fun(e:c=q)=>h.dead_kid dh he (e▸hc))];exact q2 c hc
   ·intro r hr
    rw[bG,ed];exact h.rb r hr
   ·simp only[setL,setN];rw[aC _ _ (Ne.symm qt)];exact ao
   ·intro c hc
    simp only[setL,setN];by_cases e:c=p
    ·subst e;rw[aD];simp
    ·rw[aC _ _ e];exact hc
   ·intro c hc
    simp only[setL,setN];have:=h.ge2 he;rw[aC _ _ (by omega),fH,aC _ _ (by omega)];exact h.two c hc
   ·simp only[setL,setN,hl,cpN,Au,fH]
 obtain⟨k1,k2,k3,k4,k5,k6,k7,k8,k9,k10⟩:=key;have hs:shadowAt f L q=letGo (setL (takeAt f q d) L q) b:=by unfold shadowAt;rw[hb,aE hd]
 have ah:(shadowAt f L q).cur.length=f.cur.length:=by rw[hs,gY,bG,ed]
 have sc:cu (setL (takeAt f q d) L q) b=cu f b:=by
  unfold cu;rw[bG];have:=dQ d mj b;unfold cu at this;rw[this,if_neg (Ne.symm mh)]
 have AH:cu (setL (takeAt f q d) L q) q=1:=by
  unfold cu;rw[bG];have:=dQ d mj q;unfold cu at this;rw[this,if_pos rfl]
 have RV:(shadowAt f L q).nodes=shN f L q b d:=by
  rw[hs,cP,sc,k10];rfl
 have Js:∀c∈kids d,(setL (takeAt f q d) L q).nodes c≠none:=fun c hc=>by
  refine k8 c ?_;obtain⟨d',gd⟩:=h.kid_live hd hc;rw[fH,aC _ _ (fun(e:c=q)=>NA (e▸hc)),gd];simp
 refine⟨⟨by rw[ah];exact h.n8,by rw[ah];exact h.n512,?_,?_,?_,?_,?_,?_,⟨_,by rw[hs];exact k5.letGo b⟩⟩,RV,ah,?_,?_⟩
 ·rw[ah,hs,lO,yC];exact h.len
 ·intro x hx
  rw[ah]at hx;rw[hs,yG (by rw[bG,ed];exact sm) k7 (fun c hc=>by rw[bG,ed];exact tg c hc),wH k1 k2,lQ mj dh hc,h.D0 x hx];omega
 ·rw[hs];exact k3.letGo (by rw[bG,ed];exact sm) k7 (fun c hc=>⟨by rw[bG,ed];exact tg c hc,Js c hc⟩)
 ·intro x hx
  rw[hs,cP];split
  ·have:=h.ge2 hd
   rw[aC _ _ (by omega)];exact k9 x hx
  ·exact k9 x hx
 ·intro r hr
  rw[ah];rw[hs,dS]at hr;have:=k6 r hr;rw[bG,ed]at this;exact this
 ·rw[hs];exact k4.letGo b
 ·rw[hs,lO,yC];rfl
 ·rw[hs]
  by_cases e:cu (setL (takeAt f q d) L q) b=1
  ·unfold letGo;rw[if_pos e]
   show(List.set _ b 0).getD q 0=1
   rw[fE _ _ _ _ (by rw[bG,ed];exact sm),if_neg mh];exact AH
  ·rw[qX (by rw[bG,ed];exact sm) k7 (fun c hc=>by rw[bG,ed];exact tg c hc) e,if_neg mh,AH,List.count_eq_zero.2 NA];rfl
structure IP(f:fZ)(ht:Nat→Nat):Prop where
 n8:8≤f.cur.length
 n512:f.cur.length≤512
 len:f.com.length=f.cur.length
 dom:Dom f
 two:∀b,b<2→f.nodes b=none
 rb:RB f
 kb:KB f
 ht:Hts f.nodes ht
theorem IC.ip{f:fZ}(h:IC f):∃ht,IP f ht:=by
 obtain⟨ht,hh⟩:=h.ht;exact⟨ht,h.n8,h.n512,h.len,h.dom,h.two,h.rb,h.kb,hh⟩
theorem IP.ic{f:fZ}{ht:Nat→Nat}(h:IP f ht)(hD:∀x,x<f.cur.length→df f x=0):IC f:=
 ⟨h.n8,h.n512,h.len,hD,h.dom,h.two,h.rb,h.kb,ht,h.ht⟩
theorem IP.setN{f:fZ}{ht:Nat→Nat}(h:IP f ht){b:Nat}{d d':Nd}(hd:f.nodes b=some d)(hk:kL f.cur.length d')(hh:HtN ht (ht b) d'):IP (setN f b d') ht:=by
 refine⟨h.n8,h.n512,h.len,h.dom.setN hd,fun x hx=>?_,h.rb,KB.upd h.kb hk,h.ht.same hh⟩;have:x≠b:=fun e=>by have:=h.two x hx;rw[e,hd]at this;cases this
 show upd f.nodes b (some d') x=none
 rw[aC _ _ this];exact h.two x hx
theorem IP.takeAt{f:fZ}{ht:Nat→Nat}(h:IP f ht){q v:Nat}{d:Nd}(h9:2≤q)(hq:q<f.cur.length)(hk:kL f.cur.length d)(hh:HtN ht v d)(hs:q∉kids d)(hn:∀y e,f.nodes y=some e→q∉kids e):IP (takeAt f q d) (upd ht q v):=by
 have hl:(Fo.takeAt f q d).cur.length=f.cur.length:=by simp[Fo.takeAt]
 refine⟨by rw[hl];exact h.n8,by rw[hl];exact h.n512,by rw[hl];exact h.len,h.dom.takeAt hq,fun x hx=>?_,?_,?_,h.ht.dead hn hh hs⟩
 ·show upd f.nodes q (some d) x=none
  rw[aC _ _ (by omega)];exact h.two x hx
 ·intro r hr;rw[hl];exact h.rb r hr
 ·intro x e hx;rw[hl];exact KB.upd h.kb hk x e hx
theorem IP.setRoot{f:fZ}{ht:Nat→Nat}(h:IP f ht)(t:Nat){q:Nat}(hq:q<f.cur.length):IP (setL f (.root t) q) ht:=by
 refine⟨h.n8,h.n512,h.len,⟨h.dom.dead,h.dom.pos⟩,h.two,?_,h.kb,h.ht⟩;intro r hr;rcases qN hr with rfl | hr
 ·exact⟨by simp,by rw[bG];simpa using hq⟩
 ·exact h.rb r hr
theorem IP.freeB{f:fZ}{ht:Nat→Nat}(h:IP f ht){b:Nat}(hb:b<f.cur.length):IP (freeB f b) ht:=by
 have hl:(Fo.freeB f b).cur.length=f.cur.length:=by simp[Fo.freeB]
 refine⟨by rw[hl];exact h.n8,by rw[hl];exact h.n512,by rw[hl];exact h.len,h.dom.freeB hb,fun x hx=>?_,?_,?_,h.ht.gone b⟩
 ·show upd f.nodes b none x=none
  by_cases e:x=b
  ·rw[e,aD]
  ·rw[aC _ _ e];exact h.two x hx
 ·intro r hr;rw[hl];exact h.rb r hr
 ·intro x e hx
  rw[hl];by_cases q:x=b
  ·subst q;have bq:upd f.nodes x none x=some e:=hx;rw[aD]at bq;cases bq
  ·have bq:upd f.nodes b none x=some e:=hx;rw[aC _ _ q]at bq;exact h.kb x e bq
theorem IP.letGo{f:fZ}{ht:Nat→Nat}(h:IP f ht){b:Nat}{d:Nd}(hb:b<f.cur.length)(hd:f.nodes b=some d)(hk:∀c∈kids d,c<f.cur.length∧f.nodes c≠none):IP (letGo f b) ht:=by
 have hl:=gY f b;refine⟨by rw[hl];exact h.n8,by rw[hl];exact h.n512,by rw[hl,lO];exact h.len,h.dom.letGo hb hd hk,fun x hx=>?_,?_,KB.letGo h.kb b,h.ht.letGo b⟩
 ·rw[cP];split
  ·by_cases e:x=b
   ·rw[e,aD]
   ·rw[aC _ _ e];exact h.two x hx
  ·exact h.two x hx
 ·intro r hr;rw[hl];rw[dS]at hr;exact h.rb r hr
def insE{α:Type}(l:List α)(i:Nat)(e:α):List α:=l.take i++e :: l.drop i
def delE{α:Type}(l:List α)(i:Nat):List α:=l.take i++l.drop (i+1)
theorem gK(es:List E3):kids (2,es)=es.map ch:=by simp[kids]
theorem aHG(k:Int)(es:List E3):kids (k,es)=if k=2 then es.map ch else []:=rfl
theorem nO(k:Int)(a b:List E3):kids (k,a++b)=kids (k,a)++kids (k,b):=by
 simp only[aHG];split<;>simp
theorem rW(k:Int)(a:List E3)(m:Nat)(x:Nat):((kids (k,a)).count x:Nat)=(kids (k,a.take m)).count x+(kids (k,a.drop m)).count x:=by
 rw[←List.count_append,←nO,List.take_append_drop]
theorem aAS(l:List Nat)(i q x:Nat):(insE l i q).count x=l.count x+one q x:=by
 unfold insE;rw[List.count_append,List.count_cons];have:l.count x=(l.take i).count x+(l.drop i).count x:=by rw[←List.count_append,List.take_append_drop]
 simp only[beq_iff_eq,one];omega
theorem aEF(es:List E3)(i:Nat)(e:E3)(x:Nat):(kids (2,insE es i e)).count x=(kids (2,es)).count x+one (ch e) x:=by
 rw[gK,gK,←aAS _ i];simp[insE,List.map_take,List.map_drop]
theorem fQ(l:List Nat)(i x:Nat)(h:i<l.length):(delE l i).count x+one (l.getD i 0) x=l.count x:=by
 unfold delE;rw[List.count_append];have h1:l.count x=(l.take i).count x+(l.drop i).count x:=by rw[←List.count_append,List.take_append_drop]
 have h2:l.drop i=l.getD i 0 :: l.drop (i+1):=by
  rw[gD,gE h];exact List.drop_eq_getElem_cons h
 rw[h2,List.count_cons]at h1;simp only[beq_iff_eq,one]at *;omega
theorem vB(es:List E3)(i x:Nat)(h:i<es.length):(kids (2,delE es i)).count x+one (ch (es.getD i e0)) x=(kids (2,es)).count x:=by
 have:=fQ (es.map ch) i x (by simpa using h)
 rw[gJ _ _ h]at this;rw[gK,gK,←this];simp[delE,List.map_take,List.map_drop]
theorem zG{α:Type}{l:List α}{i:Nat}{e x:α}(h:x∈insE l i e):x=e∨x∈l:=by
 simp only[insE,List.mem_append,List.mem_cons]at h;rcases h with h | h | h
 ·exact .inr (List.mem_of_mem_take h)
 ·exact .inl h
 ·exact .inr (List.mem_of_mem_drop h)
theorem nW{α:Type}{l:List α}{i:Nat}{x:α}(h:x∈delE l i):x∈l:=by
 simp only[delE,List.mem_append]at h;rcases h with h | h
 ·exact List.mem_of_mem_take h
 ·exact List.mem_of_mem_drop h
theorem kL.sub{n:Nat}{k:Int}{es es':List E3}(h:kL n (k,es))(hs:∀e∈es',e∈es)(h0:k=2→es'≠[]):kL n (k,es'):=by
 rcases h with h | ⟨h1,h2,h3⟩
 ·exact .inl h
 ·exact .inr ⟨h1,h0 h1,fun e he=>h3 e (hs e he)⟩
theorem cO{k:Int}{es:List E3}{c:Nat}(h:c∈kids (k,es)):k=2∧∃e∈es,ch e=c:=by
 simp only[aHG]at h;split at h
 ·rename_i hk;exact⟨hk,by simpa using h⟩
 ·simp at h
theorem aV{es:List E3}{c:Nat}:c∈kids (2,es)↔∃e∈es,ch e=c:=by simp[gK]
theorem HtN.sub{ht:Nat→Nat}{v:Nat}{k:Int}{es es':List E3}(h:HtN ht v (k,es))(hs:∀e∈es',∃e'∈es,ch e=ch e'):HtN ht v (k,es'):=by
 rcases h with h | ⟨h1,h2⟩
 ·exact .inl h
 ·refine .inr ⟨h1,fun c hc=>?_⟩
  obtain⟨hk,e,he,rfl⟩:=cO hc;obtain⟨e',E8,q⟩:=hs e he;rw[q];refine h2 _ ?_;simp only at h1;subst h1;exact aV.2 ⟨e',E8,rfl⟩
theorem IC.keys{f:fZ}(h:IC f){b:Nat}{k:Int}{es es':List E3}(hd:f.nodes b=some (k,es))(hk:kids (k,es')=kids (k,es))(hp:k=2→∀e∈es',0≤e.2.2):IC (setN f b (k,es')):=by
 obtain⟨ht,FC⟩:=h.ip;have hn:=h.kb b _ hd;refine(FC.setN hd ?_ ?_).ic ?_
 ·rcases hn with hn | ⟨h1,h2,h3⟩
  ·exact .inl hn
  ·simp only at h1;subst h1
   refine .inr ⟨rfl,?_,fun e he=>⟨hp rfl e he,?_⟩⟩
   ·intro e;simp only at e h2;subst e;simp[gK]at hk;exact h2 (by simpa using hk)
   ·exact(h.kb b _ hd).kid (by rw[←hk];exact aV.2 ⟨e,he,rfl⟩)
 ·rcases FC.ht b _ hd with q | ⟨q1,q2⟩
  ·exact .inl q
  ·exact .inr ⟨q1,fun c hc=>q2 c (hk▸hc)⟩
 ·intro x hx
  rw[gB (h.lt hd) hd,hk,h.D0 x hx];omega
theorem eK{ht:Nat→Nat}{v:Nat}{es:List E3}(h:HtN ht v (2,es)){c:Nat}(hc:c∈kids (2,es)):ht c+1=v:=by
 rcases h with⟨q,_⟩ | ⟨_,q⟩
 ·simp at q
 ·exact q c hc
theorem gG{es:List E3}{m:Nat}:(∀e∈es.take m,∃e'∈es,ch e=ch e')∧(∀e∈es.drop m,∃e'∈es,ch e=ch e'):=
 ⟨fun e he=>⟨e,List.mem_of_mem_take he,rfl⟩,fun e he=>⟨e,List.mem_of_mem_drop he,rfl⟩⟩
theorem oH{es:List E3}{m:Nat}(h:m<es.length)(hm:0<m):es.take m≠[]:=fun e=>by
 have:=congrArg List.length e;rw[List.length_take,List.length_nil]at this;omega
theorem nE{es:List E3}{m:Nat}(h:m<es.length):es.drop m≠[]:=fun e=>by
 have:=congrArg List.length e;simp at this;omega
theorem kU{k:Int}{es es':List E3}(hs:∀e∈es',e∈es){c:Nat}(h:c∈kids (k,es')):c∈kids (k,es):=by
 obtain⟨rfl,e,he,rfl⟩:=cO h;exact aV.2 ⟨e,hs e he,rfl⟩
def splitF(f:fZ)(p:Nat)(pes:List E3)(at' c:Nat)(k:Int)(ces:List E3)(m q:Nat)(key:ByteArray):fZ:=
 setN (takeAt (setN f c (k,ces.take m)) q (k,ces.drop m)) p (2,insE pes (at'+1) (key,.empty,(q:Int)))
theorem IC.split{f:fZ}(h:IC f){p c q at' m:Nat}{k:Int}{pes ces:List E3}(key:ByteArray)(hp:f.nodes p=some (2,pes))(ha:at'<pes.length)(hc:c=ch (pes.getD at' e0))(hd:f.nodes c=some (k,ces))(hm:0<m)(g9:m<ces.length)(h9:2≤q)(mj:q<f.cur.length)(hq:cu f q=0):
  IC (splitF f p pes at' c k ces m q key)∧(splitF f p pes at' c k ces m q key).nodes=upd (upd (upd f.nodes c (some (k,ces.take m))) q (some (k,ces.drop m))) p (some (2,insE pes (at'+1) (key,.empty,(q:Int)))):=by
 refine⟨?_,rfl⟩;obtain⟨ht,hI⟩:=h.ip;have dh:f.nodes q=none:=(h.dom.dead q).2 hq;have fi:c∈kids (2,pes):=hc▸gL ha;have wn:p≠c:=fun e=>h.not_self hp (e▸fi);have GF:q≠c:=fun e=>by rw[←e,dh]at hd;cases hd
 have T6:q≠p:=fun e=>by rw[←e,dh]at hp;cases hp
 have Gu:=hI.ht c _ hd;have WU:=eK (hI.ht p _ hp) fi;have I1:IP (setN f c (k,ces.take m)) ht:=hI.setN hd ((h.kb c _ hd).sub (fun e he=>List.mem_of_mem_take he) fun _=>oH g9 hm) (Gu.sub gG.1);have I2:=I1.takeAt (q:=q) (v:=ht c) (d:=(k,ces.drop m)) h9 mj ((h.kb c _ hd).sub (fun e he=>List.mem_of_mem_drop he) fun _=>nE g9) (Gu.sub gG.2)
  (fun hk=>h.dead_kid dh hd (kU (fun e he=>List.mem_of_mem_drop he) hk))
  (fun y e hy hk=>by
   by_cases ey:y=c
   ·subst ey
    have pj:upd f.nodes y (some (k,ces.take m)) y=some e:=hy;rw[aD]at pj;cases pj;exact h.dead_kid dh hd (kU (fun e he=>List.mem_of_mem_take he) hk)
   ·have pj:upd f.nodes c (some (k,ces.take m)) y=some e:=hy
    rw[aC _ _ ey]at pj;exact h.dead_kid dh pj hk)
 have Bp:(takeAt (setN f c (k,ces.take m)) q (k,ces.drop m)).nodes p=some (2,pes):=by
  show upd (upd f.nodes c (some (k,ces.take m))) q (some (k,ces.drop m)) p=_
  rw[aC _ _ (Ne.symm T6),aC _ _ wn];exact hp
 have Cz:(takeAt (setN f c (k,ces.take m)) q (k,ces.drop m)).cur.length=f.cur.length:=by simp[takeAt,setN]
 have I3:=I2.setN (d':=(2,insE pes (at'+1) (key,.empty,(q:Int)))) Bp ?_ ?_
 ·refine I3.ic fun x hx=>?_
  have hx:x<f.cur.length:=by have:x <(takeAt (setN f c (k,ces.take m)) q (k,ces.drop m)).cur.length:=hx;rw[Cz]at this;exact this
  have e1:=gB (d':=(k,ces.take m)) (h.lt hd) hd x;have e2:=lQ (f:=setN f c (k,ces.take m)) (q:=q) (d:=(k,ces.drop m)) mj (by show upd f.nodes c _ q=none;rw[aC _ _ GF];exact dh) hq x;have e3:=gB (d':=(2,insE pes (at'+1) (key,.empty,(q:Int)))) (by rw[Cz];exact h.lt hp) Bp x;have e4:=rW k ces m x;have e5:=aEF pes (at'+1) (key,.empty,(q:Int)) x;have e6:ch (key,.empty,(q:Int))=q:=by simp[ch]
  rw[e6]at e5;have e0:=h.D0 x hx;show df (setN _ p _) x=0
  rw[e3,e2,e1];omega
 ·rw[Cz]
  rcases h.kb p _ hp with q' | ⟨_,q1,q2⟩
  ·simp at q'
  ·refine .inr ⟨rfl,by simp[insE],fun e he=>?_⟩
   rcases zG he with rfl | he
   ·exact⟨by simp,by simpa [ch] using mj⟩
   ·exact q2 e he
 ·rw[aC _ _ (Ne.symm T6)]
  refine .inr ⟨rfl,fun x hx=>?_⟩;obtain⟨e,he,rfl⟩:=aV.1 hx;rcases zG he with rfl | he
  ·simp only[ch,Int.toNat_natCast];rw[aD];exact WU
  ·have hk:ch e∈kids (2,pes):=aV.2 ⟨e,he,rfl⟩
   rw[aC _ _ (fun(z:ch e=q)=>h.dead_kid dh hp (z▸hk))];exact eK (hI.ht p _ hp) hk
def growF(f:fZ)(t r:Nat)(k:Int)(es:List E3)(m q top:Nat)(k0 k1:ByteArray):fZ:=
 setL (takeAt (takeAt (setN f r (k,es.take m)) q (k,es.drop m)) top (2,[(k0,.empty,(r:Int)),(k1,.empty,(q:Int))])) (.root t) top
theorem IC.grow{f:fZ}(h:IC f){t r q top m:Nat}{k:Int}{es:List E3}(k0 k1:ByteArray)(fy:t<f.roots.length)(hr:(f.roots.getD t (0,0)).2.toNat=r)(hd:f.nodes r=some (k,es))(hm:0<m)(g9:m<es.length)
  (h9:2≤q) (mj:q<f.cur.length) (hq:cu f q=0) (Ac:2≤top) (DS:top<f.cur.length) (qv:cu f top=0) (sq:top≠q):
  IC (growF f t r k es m q top k0 k1)∧(growF f t r k es m q top k0 k1).nodes=upd (upd (upd f.nodes r (some (k,es.take m))) q (some (k,es.drop m))) top (some (2,[(k0,.empty,(r:Int)),(k1,.empty,(q:Int))])):=by
 refine⟨?_,rfl⟩;obtain⟨ht,hI⟩:=h.ip;have dh:f.nodes q=none:=(h.dom.dead q).2 hq;have FJ:f.nodes top=none:=(h.dom.dead top).2 qv;have T8:q≠r:=fun e=>by rw[←e,dh]at hd;cases hd
 have UD:top≠r:=fun e=>by rw[←e,FJ]at hd;cases hd
 have He:=h.lt hd;have Ts:=hI.ht r _ hd;have I1:IP (setN f r (k,es.take m)) ht:=hI.setN hd ((h.kb r _ hd).sub (fun e he=>List.mem_of_mem_take he) fun _=>oH g9 hm) (Ts.sub gG.1);have dead1:∀z,f.nodes z=none→∀y e,(setN f r (k,es.take m)).nodes y=some e→z∉kids e:=fun z hz y e hy hk=>by
   by_cases ey:y=r
   ·subst ey
    have pj:upd f.nodes y (some (k,es.take m)) y=some e:=hy;rw[aD]at pj;cases pj;exact h.dead_kid hz hd (kU (fun e he=>List.mem_of_mem_take he) hk)
   ·have pj:upd f.nodes r (some (k,es.take m)) y=some e:=hy
    rw[aC _ _ ey]at pj;exact h.dead_kid hz pj hk
 have I2:=I1.takeAt (q:=q) (v:=ht r) (d:=(k,es.drop m)) h9 mj ((h.kb r _ hd).sub (fun e he=>List.mem_of_mem_drop he) fun _=>nE g9) (Ts.sub gG.2)
  (fun hk=>h.dead_kid dh hd (kU (fun e he=>List.mem_of_mem_drop he) hk)) (dead1 q dh)
 have Cz:(takeAt (setN f r (k,es.take m)) q (k,es.drop m)).cur.length=f.cur.length:=by simp[takeAt,setN]
 have Mt:kids (2,[(k0,.empty,(r:Int)),(k1,.empty,(q:Int))])=[r,q]:=by simp[gK,ch]
 have I3:=I2.takeAt (q:=top) (v:=ht r+1) (d:=(2,[(k0,.empty,(r:Int)),(k1,.empty,(q:Int))])) Ac (by rw[Cz];exact DS)
  (.inr ⟨rfl,by simp,fun e he=>by
   rw[Cz];simp only[List.mem_cons,List.not_mem_nil,or_false]at he;rcases he with rfl | rfl
   ·exact⟨by simp,by simpa [ch] using He⟩
   ·exact⟨by simp,by simpa [ch] using mj⟩⟩)
  (.inr ⟨rfl,fun c hc=>by
   rw[Mt]at hc;simp only[List.mem_cons,List.not_mem_nil,or_false]at hc;rcases hc with rfl | rfl
   ·rw[aC _ _ (Ne.symm T8)]
   ·rw[aD]⟩)
  (fun hk=>by rw[Mt]at hk;simp[UD,sq]at hk)
  (fun y e hy hk=>by
   by_cases ey:y=q
   ·subst ey
    have pj:upd (setN f r (k,es.take m)).nodes y (some (k,es.drop m)) y=some e:=hy;rw[aD]at pj;cases pj;exact h.dead_kid FJ hd (kU (fun e he=>List.mem_of_mem_drop he) hk)
   ·have pj:upd (setN f r (k,es.take m)).nodes q (some (k,es.drop m)) y=some e:=hy
    rw[aC _ _ ey]at pj;exact dead1 top FJ y e pj hk)
 have EW:(takeAt (takeAt (setN f r (k,es.take m)) q (k,es.drop m)) top (2,[(k0,.empty,(r:Int)),(k1,.empty,(q:Int))])).cur.length=f.cur.length:=by simp[takeAt,setN]
 refine(I3.setRoot t (q:=top) (by rw[EW];exact DS)).ic fun x hx=>?_;rw[bG,EW]at hx;have e1:=gB (d':=(k,es.take m)) He hd x;have e2:=lQ (f:=setN f r (k,es.take m)) (q:=q) (d:=(k,es.drop m)) mj (by show upd f.nodes r _ q=none;rw[aC _ _ T8];exact dh) hq x;have e3:=lQ (f:=takeAt (setN f r (k,es.take m)) q (k,es.drop m)) (q:=top) (d:=(2,[(k0,.empty,(r:Int)),(k1,.empty,(q:Int))])) (by rw[Cz];exact DS)
  (by show upd (upd f.nodes r _) q _ top=none;rw[aC _ _ sq,aC _ _ UD];exact FJ)
  (by rw[dQ _ (by exact mj),if_neg (Ne.symm sq)];exact qv) x
 have e4:=wH (f:=takeAt (takeAt (setN f r (k,es.take m)) q (k,es.drop m)) top (2,[(k0,.empty,(r:Int)),(k1,.empty,(q:Int))])) (L:=.root t) (b:=r) fy hr top x;have e5:=rW k es m x;have e6:(kids (2,[(k0,.empty,(r:Int)),(k1,.empty,(q:Int))])).count x=one r x+one q x:=by
  rw[Mt];simp only[List.count_cons,List.count_nil,beq_iff_eq,one];omega
 have e0:=h.D0 x hx;rw[e4,e3,e2,e1,e6];omega
def moveF(f:fZ)(p c s:Nat)(k:Int)(ces ses pes:List E3):fZ:=setN (setN (setN f c (k,ces)) s (k,ses)) p (2,pes)
theorem IC.move{f:fZ}(h:IC f){p c s:Nat}{k:Int}{pes pes' ces ces' ses ses':List E3}(hp:f.nodes p=some (2,pes))(hc:c∈kids (2,pes))(hs:s∈kids (2,pes))(iN:c≠s)(i9:f.nodes c=some (k,ces))(iu:f.nodes s=some (k,ses))
  (hk:kids (2,pes')=kids (2,pes)) (Ra:∀e∈pes',0≤e.2.2) (ay:∀x,(kids (k,ces')).count x+(kids (k,ses')).count x=(kids (k,ces)).count x+(kids (k,ses)).count x)
  (jm:∀e,e∈ces'∨e∈ses'→e∈ces∨e∈ses) (h0:ces'≠[]∧ses'≠[]):
  IC (moveF f p c s k ces' ses' pes')∧(moveF f p c s k ces' ses' pes').nodes=upd (upd (upd f.nodes c (some (k,ces'))) s (some (k,ses'))) p (some (2,pes')):=by
 refine⟨?_,rfl⟩;obtain⟨ht,hI⟩:=h.ip;have wn:p≠c:=fun e=>h.not_self hp (e▸hc);have KE:p≠s:=fun e=>h.not_self hp (e▸hs);have hv:ht c=ht s:=by have:=eK (hI.ht p _ hp) hc;have:=eK (hI.ht p _ hp) hs;omega
 have good:∀es',es'≠[]→(∀e∈es',e∈ces∨e∈ses)→kL f.cur.length (k,es')∧HtN ht (ht c) (k,es'):=fun es' av af=>by
  have a1:=h.kb c _ i9;have a2:=h.kb s _ iu;have b1:=hI.ht c _ i9;have b2:=hI.ht s _ iu;rw[←hv]at b2;constructor
  ·rcases a1 with a1 | ⟨a1,_,a3⟩
   ·exact .inl a1
   ·rcases a2 with a2 | ⟨_,_,a4⟩
    ·simp only at a1 a2;omega
    ·refine .inr ⟨a1,av,fun e he=>?_⟩
     rcases af e he with q | q
     ·exact a3 e q
     ·exact a4 e q
  ·rcases b1 with b1 | ⟨b1,b3⟩
   ·exact .inl b1
   ·rcases b2 with⟨b2,_⟩ | ⟨_,b4⟩
    ·simp only at b1 b2;omega
    ·refine .inr ⟨b1,fun x hx=>?_⟩
     obtain⟨rfl,e,he,rfl⟩:=cO hx;rcases af e he with q | q
     ·exact b3 _ (aV.2 ⟨e,q,rfl⟩)
     ·exact b4 _ (aV.2 ⟨e,q,rfl⟩)
 have g1:=good ces' h0.1 fun e he=>jm e (.inl he);have g2:=good ses' h0.2 fun e he=>jm e (.inr he);have I1:=hI.setN (d':=(k,ces')) i9 g1.1 g1.2;have jx:(setN f c (k,ces')).nodes s=some (k,ses):=by show upd f.nodes c _ s=_;rw[aC _ _ (Ne.symm iN)];exact iu
 have I2:=I1.setN (d':=(k,ses')) jx g2.1 (hv▸g2.2);have Bp:(setN (setN f c (k,ces')) s (k,ses')).nodes p=some (2,pes):=by
  show upd (upd f.nodes c _) s _ p=_
  rw[aC _ _ KE,aC _ _ wn];exact hp
 have I3:=I2.setN (d':=(2,pes')) Bp ?_ ?_
 ·refine I3.ic fun x hx=>?_
  have hx:x<f.cur.length:=hx;have e1:=gB (d':=(k,ces')) (h.lt i9) i9 x;have e2:=gB (f:=setN f c (k,ces')) (d':=(k,ses')) (h.lt iu) jx x;have e3:=gB (f:=setN (setN f c (k,ces')) s (k,ses')) (d':=(2,pes')) (h.lt hp) Bp x;have e4:=ay x;have e0:=h.D0 x hx;show df (setN _ p _) x=0
  rw[e3,e2,e1,hk];omega
 ·rcases h.kb p _ hp with q' | ⟨_,q1,q2⟩
  ·simp at q'
  ·refine .inr ⟨rfl,?_,fun e he=>⟨Ra e he,?_⟩⟩
   ·intro e;simp only at e;subst e;simp[gK]at hk;exact q1 (by simpa using hk)
   ·exact(h.kb p _ hp).kid (by rw[←hk];exact aV.2 ⟨e,he,rfl⟩)
 ·exact .inr ⟨rfl,fun x hx=>eK (hI.ht p _ hp) (hk▸hx)⟩
def mergeF(f:fZ)(p c s:Nat)(k:Int)(ces pes:List E3):fZ:=letGo (setN (setN f c (k,ces)) p (2,pes)) s
theorem IC.merge{f:fZ}(h:IC f){p c s:Nat}{k:Int}{pes pes' ces ces' ses:List E3}(hp:f.nodes p=some (2,pes))(hc:c∈kids (2,pes))(hs:s∈kids (2,pes))(iN:c≠s)(i9:f.nodes c=some (k,ces))(iu:f.nodes s=some (k,ses))
  (hk:∀x,(kids (2,pes')).count x+one s x=(kids (2,pes)).count x) (Ra:∀e∈pes',0≤e.2.2) (G9:pes'≠[]) (ay:∀x,(kids (k,ces')).count x=(kids (k,ces)).count x+(kids (k,ses)).count x)
  (jm:∀e,e∈ces'→e∈ces∨e∈ses) (h0:ces'≠[]):
  IC (mergeF f p c s k ces' pes')∧(mergeF f p c s k ces' pes').nodes=(if cu f s=1 then upd (upd (upd f.nodes c (some (k,ces'))) p (some (2,pes'))) s none else upd (upd f.nodes c (some (k,ces'))) p (some (2,pes'))):=by
 have hn:(mergeF f p c s k ces' pes').nodes=(if cu f s=1 then upd (upd (upd f.nodes c (some (k,ces'))) p (some (2,pes'))) s none else upd (upd f.nodes c (some (k,ces'))) p (some (2,pes'))):=by
  unfold mergeF;rw[cP];rfl
 refine⟨?_,hn⟩;obtain⟨ht,hI⟩:=h.ip;have wn:p≠c:=fun e=>h.not_self hp (e▸hc);have KE:p≠s:=fun e=>h.not_self hp (e▸hs);have hv:ht c=ht s:=by have:=eK (hI.ht p _ hp) hc;have:=eK (hI.ht p _ hp) hs;omega
 have ut:∀x∈kids (2,pes'),x∈kids (2,pes):=fun x hx=>by
  have:=hk x;have:=List.count_pos_iff.2 hx;exact List.count_pos_iff.1 (by omega)
 have good:kL f.cur.length (k,ces')∧HtN ht (ht c) (k,ces'):=by
  have a1:=h.kb c _ i9;have a2:=h.kb s _ iu;have b1:=hI.ht c _ i9;have b2:=hI.ht s _ iu;rw[←hv]at b2;constructor
  ·rcases a1 with a1 | ⟨a1,_,a3⟩
   ·exact .inl a1
   ·rcases a2 with a2 | ⟨_,_,a4⟩
    ·simp only at a1 a2;omega
    ·refine .inr ⟨a1,h0,fun e he=>?_⟩
     rcases jm e he with q | q
     ·exact a3 e q
     ·exact a4 e q
  ·rcases b1 with b1 | ⟨b1,b3⟩
   ·exact .inl b1
   ·rcases b2 with⟨b2,_⟩ | ⟨_,b4⟩
    ·simp only at b1 b2;omega
    ·refine .inr ⟨b1,fun x hx=>?_⟩
     obtain⟨rfl,e,he,rfl⟩:=cO hx;rcases jm e he with q | q
     ·exact b3 _ (aV.2 ⟨e,q,rfl⟩)
     ·exact b4 _ (aV.2 ⟨e,q,rfl⟩)
 have I1:=hI.setN (d':=(k,ces')) i9 good.1 good.2;have G7:(setN f c (k,ces')).nodes p=some (2,pes):=by show upd f.nodes c _ p=_;rw[aC _ _ wn];exact hp
 have I2:=I1.setN (d':=(2,pes')) G7 ?_ (.inr ⟨rfl,fun x hx=>eK (hI.ht p _ hp) (ut x hx)⟩)
 ·have ti:(setN (setN f c (k,ces')) p (2,pes')).nodes s=some (k,ses):=by
   show upd (upd f.nodes c _) p _ s=_
   rw[aC _ _ (Ne.symm KE),aC _ _ (Ne.symm iN)];exact iu
  have AO:∀x∈kids (k,ses),x<f.cur.length:=fun x=>h.kid_lt iu;have mu:∀x∈kids (k,ses),(setN (setN f c (k,ces')) p (2,pes')).nodes x≠none:=fun x hx=>by
   obtain⟨d',gd⟩:=h.kid_live iu hx;show upd (upd f.nodes c _) p _ x≠none
   by_cases e1:x=p
   ·rw[e1,aD];simp
   ·rw[aC _ _ e1]
    by_cases e2:x=c
    ·rw[e2,aD];simp
    ·rw[aC _ _ e2,gd];simp
  refine(I2.letGo (b:=s) (h.lt iu) ti fun x hx=>⟨AO x hx,mu x hx⟩).ic fun x hx=>?_;rw[gY]at hx;have hx:x<f.cur.length:=hx;have e1:=gB (d':=(k,ces')) (h.lt i9) i9 x;have e2:=gB (f:=setN f c (k,ces')) (d':=(2,pes')) (h.lt hp) G7 x;have e3:=yG (f:=setN (setN f c (k,ces')) p (2,pes')) (b:=s) (h.lt iu) ti AO x;have e4:=ay x;have e5:=hk x;have e0:=h.D0 x hx;rw[e3,e2,e1];omega
 ·rcases h.kb p _ hp with q' | ⟨_,q1,q2⟩
  ·simp at q'
  ·exact .inr ⟨rfl,G9,fun e he=>⟨Ra e he,(h.kb p _ hp).kid (ut _ (aV.2 ⟨e,he,rfl⟩))⟩⟩
def fallF(f:fZ)(t r c:Nat):fZ:=setL (freeB f r) (.root t) c
theorem IC.fall{f:fZ}(h:IC f){t r:Nat}{e:E3}(fy:t<f.roots.length)(hr:(f.roots.getD t (0,0)).2.toNat=r)(hd:f.nodes r=some (2,[e]))(h1:cu f r=1):
  IC (fallF f t r (ch e))∧(fallF f t r (ch e)).nodes=upd f.nodes r none:=by
 refine⟨?_,rfl⟩;obtain⟨ht,hI⟩:=h.ip;have hk:kids (2,[e])=[ch e]:=by simp[gK]
 have Gm:ch e<f.cur.length:=h.kid_lt hd (by rw[hk];simp);have I1:=hI.freeB (h.lt hd);have hl:(freeB f r).cur.length=f.cur.length:=by simp[freeB]
 refine(I1.setRoot t (q:=ch e) (by rw[hl];exact Gm)).ic fun x hx=>?_;rw[bG,hl]at hx;have e1:=rD (h.lt hd) hd h1 x;have e2:=wH (f:=freeB f r) (L:=.root t) (b:=r) fy hr (ch e) x;have e3:(kids (2,[e])).count x=one (ch e) x:=by
  rw[hk];simp only[List.count_cons,List.count_nil,beq_iff_eq,one];omega
 have e0:=h.D0 x hx;show df (setL _ _ _) x=0
 rw[e2,e1,e3];omega
def kl(a b:ByteArray):Bool:=Op.bytesLess a.toList b.toList
theorem oP:∀l:List UInt8,Op.bytesLess l l=false
 | []=>rfl
 | a :: l=>by simp[Op.bytesLess,oP l,UInt8.lt_irrefl]
theorem aKW:∀l m k:List UInt8,Op.bytesLess l m=true→Op.bytesLess m k=true→Op.bytesLess l k=true
 | [],[],_,h,_=>by simp[Op.bytesLess]at h
 | [],b :: m,[],_,h=>by simp[Op.bytesLess]at h
 | [],b :: m,c :: k,_,_=>rfl
 | a :: l,[],_,h,_=>by simp[Op.bytesLess]at h
 | a :: l,b :: m,[],_,h=>by simp[Op.bytesLess]at h
 | a :: l,b :: m,c :: k,h,h'=>by
  simp only[Op.bytesLess,Bool.or_eq_true,decide_eq_true_eq,Bool.and_eq_true,beq_iff_eq]at h h' ⊢;rcases h with h | ⟨rfl,h⟩
  ·rcases h' with h' | ⟨rfl,h'⟩
   ·exact .inl (UInt8.lt_trans h h')
   ·exact .inl h
  ·rcases h' with h' | ⟨rfl,h'⟩
   ·exact .inl h'
   ·exact .inr ⟨rfl,aKW l m k h h'⟩
theorem aGA:∀l m:List UInt8,Op.bytesLess l m=false→l=m∨Op.bytesLess m l=true
 | [],[],_=>.inl rfl
 | [],b :: m,h=>by simp[Op.bytesLess]at h
 | a :: l,[],_=>.inr rfl
 | a :: l,b :: m,h=>by
  simp only[Op.bytesLess,Bool.or_eq_false_iff,decide_eq_false_iff_not,Bool.and_eq_false_iff,beq_eq_false_iff_ne]at h;obtain⟨h1,h2⟩:=h;by_cases e:a=b
  ·subst e
   rcases aGA l m (h2.resolve_left (fun q=>q rfl))with q | q
   ·exact .inl (by rw[q])
   ·exact .inr (by simp[Op.bytesLess,q])
  ·refine .inr ?_
   have:=UInt8.lt_of_le_of_ne (UInt8.not_lt.1 h1) (Ne.symm e)
   simp[Op.bytesLess,this]
theorem gQ{a b:ByteArray}(h:a.toList=b.toList):a=b:=by
 rw[ByteArray.toList_eq,ByteArray.toList_eq]at h;cases a;cases b;congr;exact Array.toList_inj.1 h
theorem eA(a:ByteArray):kl a a=false:=oP _
theorem jN{a b c:ByteArray}(h:kl a b=true)(h':kl b c=true):kl a c=true:=aKW _ _ _ h h'
theorem jZ{a b:ByteArray}(h:kl a b=false):a=b∨kl b a=true:=by
 rcases aGA _ _ h with q | q
 ·exact .inl (gQ q)
 ·exact .inr q
theorem eN{a b:ByteArray}(h:kl a b=true):kl b a=false:=by
 cases e:kl b a with
 | false=>rfl
 | true=>have:=jN h e;rw[eA]at this;cases this
theorem kW{a b c:ByteArray}(h:kl b a=false)(h':kl b c=true):kl a c=true:=by
 rcases jZ h with rfl | q
 ·exact h'
 ·exact jN q h'
theorem kX{a b c:ByteArray}(h:kl a b=true)(h':kl c b=false):kl a c=true:=by
 rcases jZ h' with rfl | q
 ·exact h
 ·exact jN h q
theorem fF{a b c:ByteArray}(h:kl b a=false)(h':kl c b=false):kl c a=false:=by
 cases e:kl c a with
 | false=>rfl
 | true=>have:=kX e h;rw[h']at this;cases this
def loR(lo:OB)(k:ByteArray):Prop:=match lo with
 | none=>True
 | some l=>kl k l=false
def hiR(hi:OB)(k:ByteArray):Prop:=match hi with
 | none=>True
 | some u=>kl k u=true
def ky(es:List E3)(i:Nat):ByteArray:=(es.getD i e0).1
def kd(es:List E3)(i:Nat):Nat:=ch (es.getD i e0)
def Srt(es:List E3):Prop:=∀i j,i<j→j<es.length→kl (ky es i) (ky es j)=true
def nxt(es:List E3)(i:Nat)(hi:OB):OB:=if i+1<es.length then some (ky es (i+1))else hi
structure dX(es:List E3)(lo hi:OB):Prop where
 srt:Srt es
 lo:∀i,i<es.length→loR lo (ky es i)
 hi:∀i,i<es.length→hiR hi (ky es i)
 le5:es.length≤5
def sz(nodes:Nat→Option Nd)(b:Nat):Nat:=match nodes b with
 | some d=>d.2.length
 | none=>0
def Ok(nodes:Nat→Option Nd):Nat→Nat→OB→OB→Prop
 | 0,b,lo,hi=>∃es,nodes b=some (1,es)∧dX es lo hi∧∀i,i<es.length→(es.getD i e0).2.2=0
 | h+1,b,lo,hi=>∃es,nodes b=some (2,es)∧dX es lo hi∧es≠[]∧(∀i,i<es.length→(es.getD i e0).2.1=ByteArray.empty)∧
   ∀i,i<es.length→2≤sz nodes (kd es i)∧Ok nodes h (kd es i) (some (ky es i)) (nxt es i hi)
theorem aP{es:List E3}{i:Nat}(hi:i<es.length):kd es i∈kids (2,es):=gL hi
theorem Ok.frame{nodes nodes':Nat→Option Nd}{U:Nat→Prop}(hU:∀x d,U x→nodes x=some d→∀c∈kids d,U c)(he:∀x,U x→nodes' x=nodes x):
  ∀h b lo hi,U b→Ok nodes h b lo hi→Ok nodes' h b lo hi
 | 0,b,lo,hi,hb,h=>by
  obtain⟨es,h1,h2⟩:=h;exact⟨es,(he b hb).trans h1,h2⟩
 | h+1,b,lo,hi,hb,hk=>by
  obtain⟨es,h1,h2,h3,h4,h5⟩:=hk;refine⟨es,(he b hb).trans h1,h2,h3,h4,fun i ak=>?_⟩;have hu:U (kd es i):=hU b _ hb h1 _ (aP ak);refine⟨?_,Ok.frame hU he h _ _ _ hu (h5 i ak).2⟩;unfold sz;rw[he _ hu];exact(h5 i ak).1
theorem Ok.sz_pos{nodes:Nat→Option Nd}{h b:Nat}{lo hi:OB}(k:Ok nodes h b lo hi):∃d,nodes b=some d∧(d.1=1∨d.1=2)∧d.2.length≤5∧Srt d.2∧(h=0↔d.1=1):=by
 cases h with
 | zero=>obtain⟨es,h1,h2,_⟩:=k;exact⟨_,h1,.inl rfl,h2.le5,h2.srt,by simp⟩
 | succ h=>obtain⟨es,h1,h2,_⟩:=k;exact⟨_,h1,.inr rfl,h2.le5,h2.srt,by simp⟩
theorem Ok.wide{nodes:Nat→Option Nd}:∀{h b:Nat} {lo hi lo' ak:OB},(∀k,loR lo k→loR lo' k)→(∀k,hiR hi k→hiR ak k)→Ok nodes h b lo hi→Ok nodes h b lo' ak
 | 0,b,lo,hi,lo',ak,hl,hh,k=>by
  obtain⟨es,h1,h2,h3⟩:=k;exact⟨es,h1,⟨h2.srt,fun i q=>hl _ (h2.lo i q),fun i q=>hh _ (h2.hi i q),h2.le5⟩,h3⟩
 | h+1,b,lo,hi,lo',ak,hl,hh,k=>by
  obtain⟨es,h1,h2,h3,h4,h5⟩:=k;refine⟨es,h1,⟨h2.srt,fun i q=>hl _ (h2.lo i q),fun i q=>hh _ (h2.hi i q),h2.le5⟩,h3,h4,fun i ak=>⟨(h5 i ak).1,?_⟩⟩;refine Ok.wide (fun _ q=>q) ?_ (h5 i ak).2;unfold nxt;split
  ·exact fun _ q=>q
  ·exact hh
def aB(f:fZ)(t:Nat):Nat:=(f.roots.getD t (0,0)).2.toNat
theorem aO{f:fZ}{t:Nat}(h:t<f.roots.length):f.roots.getD t (0,0)∈f.roots:=by
 rw[gD,gE h];exact List.getElem_mem h
def aN(f:fZ)(t H:Nat):List Nat→Nat→Nat→OB→OB→Prop
 | [],b,h,lo,hi=>cu f (aB f t)=1∧b=aB f t∧h=H∧lo=none∧hi=none
 | q :: P,c,h,lo,hi=>∃lo0 Gv es i,aN f t H P q (h+1) lo0 Gv∧f.nodes q=some (2,es)∧i<es.length∧cu f (kd es i)=1∧c=kd es i∧lo=some (ky es i)∧hi=nxt es i Gv
theorem aN.here{f:fZ}{t H:Nat}(h:cu f (aB f t)=1):aN f t H [] (aB f t) H none none:=⟨h,rfl,rfl,rfl,rfl⟩
theorem aN.down{f:fZ}{t H:Nat}{P:List Nat}{b h:Nat}{lo hi:OB}{es:List E3}{i:Nat}(p:aN f t H P b (h+1) lo hi)(hn:f.nodes b=some (2,es))(ak:i<es.length)(hc:cu f (kd es i)=1):aN f t H (b :: P) (kd es i) h (some (ky es i)) (nxt es i hi):=⟨lo,hi,es,i,p,hn,ak,hc,rfl,rfl,rfl⟩
theorem aN.ind{f:fZ}{t H:Nat}{motive:∀(P:List Nat) (b h:Nat) (lo hi:OB),aN f t H P b h lo hi→Prop}(here:∀h:cu f (aB f t)=1,motive [] (aB f t) H none none (aN.here h))
  (down:∀{P:List Nat} {b h:Nat} {lo hi:OB} {es:List E3} {i:Nat} (p:aN f t H P b (h+1) lo hi) (hn:f.nodes b=some (2,es)) (ak:i<es.length) (hc:cu f (kd es i)=1),motive P b (h+1) lo hi p→motive (b :: P) (kd es i) h (some (ky es i)) (nxt es i hi) (aN.down p hn ak hc)):
  ∀{P:List Nat} {b h:Nat} {lo hi:OB} (p:aN f t H P b h lo hi),motive P b h lo hi p:=by
 intro P;induction P with
 | nil=>
  intro b h lo hi p;obtain⟨h1,rfl,rfl,rfl,rfl⟩:=p;exact here h1
 | cons q P ih=>
  intro b h lo hi p;obtain⟨lo0,Gv,es,i,p,h1,h2,h3,rfl,rfl,rfl⟩:=p;exact down p h1 h2 h3 (ih p)
section
variable {f : fZ} {t H : Nat}
theorem aN.named(h:IC f)(ht:t<f.roots.length){P:List Nat}{b hb:Nat}{lo hi:OB}(p:aN f t H P b hb lo hi):
  ∀y∈b :: P,cu f y=1∧(∀x d,f.nodes x=some d→y∈kids d→x∈P)∧(y=aB f t∨rc f.roots y=0):=by
 induction p using aN.ind with
 | here h1=>
  intro y hy;simp only[List.mem_cons,List.not_mem_nil,or_false]at hy;subst hy;exact⟨h1,fun x d hx hk=>absurd hk ((h.onlyRoot (aO ht) h1).2 x d hx),.inl rfl⟩
 | @down P b hh lo hi es i p hn ak h1 ih=>
  intro y hy;rcases List.mem_cons.1 hy with rfl | hy
  ·have ho:=h.only h1 hn (aP ak)
   exact⟨h1,fun x d hx hk=>by rw[ho.2.2 x d hx hk];exact List.mem_cons_self,.inr ho.1⟩
  ·obtain⟨a1,a2,a3⟩:=ih y hy
   exact⟨a1,fun x d hx hk=>List.mem_cons_of_mem _ (a2 x d hx hk),a3⟩
theorem aN.high{uu:Nat→Nat}(hh:Hts f.nodes uu){P:List Nat}{b hb:Nat}{lo hi:OB}(p:aN f t H P b hb lo hi):∀y∈P,uu b<uu y:=by
 induction p using aN.ind with
 | here h1=>intro y hy;simp at hy
 | @down P b Ku lo hi es i p hn ak h1 ih=>
  intro y hy;have hk:=eK (hh b _ hn) (aP ak);rcases List.mem_cons.1 hy with rfl | hy
  ·omega
  ·have:=ih y hy;omega
theorem aN.ok{P:List Nat}{b hb:Nat}{lo hi:OB}(p:aN f t H P b hb lo hi)(ho:Ok f.nodes H (aB f t) none none):Ok f.nodes hb b lo hi∧(P≠[]→2≤sz f.nodes b):=by
 induction p using aN.ind with
 | here h1=>exact⟨ho,fun q=>absurd rfl q⟩
 | @down P b Ku lo hi es i p hn ak h1 ih=>
  obtain⟨es',e1,_,_,_,e5⟩:=ih.1;rw[hn]at e1;cases e1;exact⟨(e5 i ak).2,fun _=>(e5 i ak).1⟩
theorem aN.live(h:IC f)(ht:t<f.roots.length){P:List Nat}{b hb:Nat}{lo hi:OB}(p:aN f t H P b hb lo hi):∀y∈b :: P,∃d,f.nodes y=some d:=fun y hy=>
 h.live (by rw[(p.named h ht y hy).1];omega)
theorem dU{es:List E3}{i j:Nat}(h1:(kids (2,es)).count (kd es i)=1)(hi:i<es.length)(hj:j<es.length)(e:kd es j=kd es i):j=i:=by
 rw[gK]at h1;have a1:(es.map ch).getD i 0=kd es i:=gJ _ _ hi;have a2:(es.map ch).getD j 0=kd es i:=(gJ _ _ hj).trans e;generalize kd es i=x at *;have hi:i <(es.map ch).length:=by simpa using hi
 have hj:j <(es.map ch).length:=by simpa using hj
 generalize es.map ch=l at *;by_cases av:j=i
 ·exact av
 ·exfalso
  have:=fQ l i x hi
  rw[a1,cA,h1]at this;have h0:(delE l i).count x=0:=by omega
  refine List.count_eq_zero.1 h0 ?_;rw[gD,gE hj]at a2;simp only[Option.getD_some]at a2;rw[←a2];unfold delE;by_cases ai:j<i
  ·exact List.mem_append_left _ (List.mem_take_iff_getElem.2 ⟨j,by omega,rfl⟩)
  ·refine List.mem_append_right _ (List.mem_drop_iff_getElem.2 ⟨j -(i+1),by omega,?_⟩)
   congr 1;omega
theorem aN.upd(h:IC f)(ht:t<f.roots.length){P:List Nat}{b hb:Nat}{lo hi:OB}(p:aN f t H P b hb lo hi)(ho:Ok f.nodes H (aB f t) none none){es:List E3}{k:Int}(af:f.nodes b=some (k,es))
  {nodes':Nat→Option Nd} (C:Nat→Prop) (hC:∀x,C x→cu f x=1∧x∈kids (k,es)) (hN:∀x d,f.nodes x=some d→x≠b→¬C x→nodes' x=some d)
  (kf:Ok nodes' hb b lo hi) (bd:P≠[]→2≤sz nodes' b):
  Ok nodes' H (aB f t) none none∧(∀u,u<f.roots.length→u≠t→nodes' (aB f u)=f.nodes (aB f u)∧∀hu,Ok f.nodes hu (aB f u) none none→Ok nodes' hu (aB f u) none none):=by
 obtain⟨uu,hh⟩:=h.ht;have J9:=p.named h ht;have uf:=p.high hh;let U:Nat→Prop:=fun x=>(∃d,f.nodes x=some d)∧x∉b :: P∧¬C x;have lk:∀x d,U x→f.nodes x=some d→∀c∈kids d,U c:=fun x d ⟨_,pt,Hl⟩ hx c hc=>by
  refine⟨h.kid_live hx hc,fun hm=>?_,fun kz=>?_⟩
  ·exact pt (List.mem_cons_of_mem _ ((J9 c hm).2.1 x d hx hc))
  ·have:=(h.only (hC c kz).1 af (hC c kz).2).2.2 x d hx hc
   exact pt (this▸List.mem_cons_self)
 have gj:∀x,U x→nodes' x=f.nodes x:=fun x ⟨⟨d,hd⟩,pt,Hl⟩=>by
  rw[hd];exact hN x d hd (fun e=>pt (e▸List.mem_cons_self)) Hl
 have fr:=Ok.frame lk gj;have CI:∀x∈P,nodes' x=f.nodes x:=fun x hx=>by
  obtain⟨d,hd⟩:=p.live h ht x (List.mem_cons_of_mem _ hx);rw[hd];refine hN x d hd (fun e=>by have:=uf x hx;rw[e]at this;omega) fun hc=>?_;have h1:=eK (ht:=uu) (v:=uu b) (es:=es) (c:=x) (by
   have:=(cO (hC x hc).2).1;subst this;exact hh b _ af) (by
   have:=(cO (hC x hc).2).1;subst this;exact(hC x hc).2)
  have:=uf x hx;omega
 have TJ:∀x∈P,∀d,f.nodes x=some d→∀c∈kids d,U c∨c∈b :: P:=fun x hx d hd c hc=>by
  by_cases hm:c∈b :: P
  ·exact .inr hm
  ·refine .inl ⟨h.kid_live hd hc,hm,fun kz=>?_⟩
   have:=(h.only (hC c kz).1 af (hC c kz).2).2.2 x d hd hc
   have a:=uf x hx;rw[this]at a;omega
 refine⟨?_,fun u hu yq=>?_⟩
 ·clear J9 af hC hN
  clear_value U
  induction p using aN.ind with
  | here h1=>exact kf
  | @down P b Ku lo hi es i p hn ak h1 ih=>
   have Td:=p.ok ho;obtain⟨es',e1,e2,e3,e4,e5⟩:=Td.1;rw[hn]at e1;cases e1;have vp:nodes' b=some (2,es):=by rw[CI b List.mem_cons_self,hn]
   have G5:=h.only h1 hn (aP ak);have pd:∀j,j<es.length→j≠i→U (kd es j):=fun j hj dm=>by
    rcases TJ b List.mem_cons_self _ hn _ (aP hj)with q | q
    ·exact q
    ·exfalso
     rcases List.mem_cons.1 q with q | q
     ·exact dm (dU G5.2.1 ak hj q)
     ·have a1:=eK (hh b _ hn) (aP hj)
      rcases List.mem_cons.1 q with q | q
      ·rw[q]at a1;omega
      ·have:=p.high hh _ q;omega
   refine ih ?_ ?_ ?_ ?_ ?_
   ·refine⟨es,vp,e2,e3,e4,fun j hj=>?_⟩
    by_cases e:j=i
    ·subst e;exact⟨bd (by simp),kf⟩
    ·refine⟨?_,fr _ _ _ _ (pd j hj e) (e5 j hj).2⟩
     unfold sz;rw[gj _ (pd j hj e)];exact(e5 j hj).1
   ·intro hP
    have:=Td.2 hP
    unfold sz at this ⊢;rw[hn]at this;rw[vp];exact this
   ·exact p.high hh
   ·intro x hx;exact CI x (List.mem_cons_of_mem _ hx)
   ·intro x hx d hd c hc
    rcases TJ x (List.mem_cons_of_mem _ hx) d hd c hc with q | q
    ·exact .inl q
    ·rcases List.mem_cons.1 q with q | q
     ·exfalso
      have:=G5.2.2 x d hd (q▸hc)
      have a:=p.high hh x hx;rw[this]at a;omega
     ·exact .inr q
 ·have Dw:U (aB f u):=?_
  ·exact⟨gj _ Dw,fun k' qr=>fr k' _ _ _ Dw qr⟩
  refine⟨h.root_live (aO hu),fun hm=>?_,fun kz=>?_⟩
  ·obtain⟨a1,a2,a3⟩:=J9 _ hm
   have FE:0<rc f.roots (aB f u):=List.count_pos_iff.2 (List.mem_map_of_mem (aO hu));rcases a3 with a3 | a3
   ·have h1:=(h.onlyRoot (aO hu) a1).1
    have JQ:=fQ (f.roots.map fun r=>r.2.toNat) u (aB f u) (by simpa using hu);have g1:(f.roots.map fun r=>r.2.toNat).getD u 0=aB f u:=by simp[aB,gD,hu]
    have g2:(f.roots.map fun r=>r.2.toNat).getD t 0=aB f u:=by rw[a3];simp[aB,gD,ht]
    rw[g1,cA]at JQ;have N6:(f.roots.map fun r=>r.2.toNat).count (aB f u)=1:=h1;have h0:(delE (f.roots.map fun r=>r.2.toNat) u).count (aB f u)=0:=by omega
    refine List.count_eq_zero.1 h0 ?_;have fy:t <(f.roots.map fun r=>r.2.toNat).length:=by simpa using ht
    rw[gD,gE fy]at g2;simp only[Option.getD_some]at g2;rw[←g2];unfold delE;by_cases ai:t<u
    ·exact List.mem_append_left _ (List.mem_take_iff_getElem.2 ⟨t,by omega,rfl⟩)
    ·refine List.mem_append_right _ (List.mem_drop_iff_getElem.2 ⟨t -(u+1),by omega,?_⟩)
     congr 1;omega
   ·omega
  ·have a:=(h.only (hC _ kz).1 af (hC _ kz).2).1
   have FE:0<rc f.roots (aB f u):=List.count_pos_iff.2 (List.mem_map_of_mem (aO hu));omega
end
end Go.Proofs.YtaahkgkdpnnhhaaGreat.Fo
namespace Go.Proofs.YtaahkgkdpnnhhaaGreat.Fo
theorem rG{α:Type}(l:List α)(z:α)(p:α→Bool)(hm:∀i j,i<j→j<l.length→p (l.getD j z)=true→p (l.getD i z)=true):∀j,j<l.length→(p (l.getD j z)=true↔j <(l.filter p).length):=by
 induction l with
 | nil=>intro j hj;simp at hj
 | cons a l ih=>
  have ih':=ih fun i j g8 hj h=>by
   have:=hm (i+1) (j+1) (by omega) (by simp;omega) (by simpa using h)
   simpa using this
  intro j hj;cases ha:p a with
  | true=>
   rw[List.filter_cons_of_pos ha,List.length_cons];cases j with
   | zero=>simp[ha]
   | succ j=>
    have:=ih' j (by simpa using hj)
    simp only[List.getD_cons_succ];rw[this];omega
  | false=>
   have ay:∀j,j<l.length→p (l.getD j z)=false:=fun j hj=>by
    cases e:p (l.getD j z)with
    | false=>rfl
    | true=>
     have:=hm 0 (j+1) (by omega) (by simp;omega) (by simpa using e)
     simp[ha]at this
   have hf:l.filter p=[]:=List.filter_eq_nil_iff.2 fun x hx=>by
    obtain⟨j,hj,rfl⟩:=List.mem_iff_getElem.1 hx;have:=ay j hj;rw[gD,gE hj]at this;simpa using this
   rw[List.filter_cons_of_neg (by simp[ha]),hf];cases j with
   | zero=>simp[ha]
   | succ j=>simp only[List.getD_cons_succ];rw[ay j (by simpa using hj)];simp
def cLe(es:List E3)(key:ByteArray):Nat:=(es.filter fun e=>!kl key e.1).length
def cLt(es:List E3)(key:ByteArray):Nat:=(es.filter fun e=>kl e.1 key).length
def bK(es:List E3)(key:ByteArray):Nat:=cLe es key-1
theorem vY(es:List E3)(key:ByteArray):cLe es key≤es.length:=List.length_filter_le ..
theorem jS(es:List E3)(key:ByteArray):cLt es key≤es.length:=List.length_filter_le ..
theorem fY{es:List E3}(hs:Srt es)(key:ByteArray){j:Nat}(hj:j<es.length):kl key (ky es j)=false↔j<cLe es key:=by
 have:=rG es e0 (fun e=>!kl key e.1) (fun i j g8 hj h=>by
  have a:=hs i j g8 hj;simp only[Bool.not_eq_true']at h ⊢;exact fF (eN a) h) j hj
 simp only[Bool.not_eq_true']at this;exact this
theorem gA{es:List E3}(hs:Srt es)(key:ByteArray){j:Nat}(hj:j<es.length):kl (ky es j) key=true↔j<cLt es key:=
 rG es e0 (fun e=>kl e.1 key) (fun i j g8 hj h=>jN (hs i j g8 hj) h) j hj
theorem eB{es:List E3}(key:ByteArray)(h:es≠[]):bK es key<es.length:=by
 have:=vY es key
 have:0<es.length:=List.length_pos_iff.2 h
 unfold bK;omega
theorem aJO{es:List E3}(hs:Srt es)(key:ByteArray){j:Nat}(hj:j<es.length)(h:bK es key<j):kl key (ky es j)=true:=by
 cases e:kl key (ky es j)with
 | true=>rfl
 | false=>have:=(fY hs key hj).1 e;unfold bK at h;omega
theorem aJP{es:List E3}(hs:Srt es)(key:ByteArray)(h0:kl key (ky es 0)=false)(hn:es≠[]):kl key (ky es (bK es key))=false:=by
 have h1:0<es.length:=List.length_pos_iff.2 hn;have h2:=(fY hs key h1).1 h0;exact(fY hs key (eB key hn)).2 (by unfold bK;omega)
theorem aCM{es:List E3}(hs:Srt es)(key:ByteArray){j:Nat}(hj:j<es.length)(h1:kl key (ky es j)=false)(h2:j+1<es.length→kl key (ky es (j+1))=true):bK es key=j:=by
 have a:=(fY hs key hj).1 h1;have b:cLe es key≤j+1:=by
  refine Nat.le_of_not_lt fun ai=>?_;have hl:=vY es key;have:=(fY hs key (j:=j+1) (by omega)).2 ai;rw[h2 (by omega)]at this;cases this
 unfold bK;omega
theorem jI{α:Type}(l:List α)(i:Nat)(e z:α)(hi:i≤l.length)(j:Nat):(insE l i e).getD j z=if j<i then l.getD j z else if j=i then e else l.getD (j-1) z:=by
 unfold insE;have hl:(l.take i).length=i:=by rw[List.length_take];omega
 simp only[gD];by_cases h1:j<i
 ·rw[if_pos h1,List.getElem?_append_left (by rw[hl];exact h1),List.getElem?_take,if_pos h1]
 ·rw[if_neg h1,List.getElem?_append_right (by rw[hl];omega),hl]
  by_cases h2:j=i
  ·subst h2;simp
  ·rw[if_neg h2]
   obtain⟨m,rfl⟩:∃m,j=i+(m+1):=⟨j-i-1,by omega⟩;rw[show i+(m+1)-i=m+1 from by omega,List.getElem?_cons_succ,List.getElem?_drop];congr 2
theorem iK{α:Type}(l:List α)(i:Nat)(e:α):(insE l i e).length=l.length+1:=by
 unfold insE;simp only[lP,List.length_cons,List.length_take,List.length_drop];omega
theorem gZ{α:Type}(l:List α)(i:Nat)(z:α)(hi:i≤l.length)(j:Nat):(delE l i).getD j z=if j<i then l.getD j z else l.getD (j+1) z:=by
 unfold delE;have hl:(l.take i).length=i:=by rw[List.length_take];omega
 simp only[gD];by_cases h1:j<i
 ·rw[if_pos h1,List.getElem?_append_left (by rw[hl];exact h1),List.getElem?_take,if_pos h1]
 ·rw[if_neg h1,List.getElem?_append_right (by rw[hl];omega),hl,List.getElem?_drop]
  congr 2;omega
theorem bI{α:Type}(l:List α)(i:Nat)(h:i<l.length):(delE l i).length=l.length-1:=by
 unfold delE;simp only[lP,List.length_take,List.length_drop];omega
theorem fS{α:Type}(l:List α)(m:Nat)(z:α){j:Nat}(h:j<m):(l.take m).getD j z=l.getD j z:=by
 simp only[gD,List.getElem?_take,if_pos h]
theorem eW{α:Type}(l:List α)(m:Nat)(z:α)(j:Nat):(l.drop m).getD j z=l.getD (m+j) z:=by
 simp only[gD,List.getElem?_drop]
theorem bB{α:Type}(l:List α)(i j:Nat)(v z:α)(hi:i<l.length):(l.set i v).getD j z=if j=i then v else l.getD j z:=by
 simp only[gD,List.getElem?_set];by_cases h:i=j
 ·subst h;simp[hi]
 ·rw[if_neg h,if_neg (Ne.symm h)]
theorem cM{α:Type}(l m:List α)(j:Nat)(z:α):(l++m).getD j z=if j<l.length then l.getD j z else m.getD (j-l.length) z:=by
 simp only[gD];by_cases h:j<l.length
 ·rw[if_pos h,List.getElem?_append_left h]
 ·rw[if_neg h,List.getElem?_append_right (by omega)]
section
variable {f : fZ} {t H : Nat}
theorem aN.kid_off(h:IC f){P:List Nat}{b hb:Nat}{lo hi:OB}(p:aN f t H P b hb lo hi){d:Nd}(hd:f.nodes b=some d){c:Nat}(hc:c∈kids d):c∉b :: P:=by
 obtain⟨uu,hh⟩:=h.ht;obtain⟨k,es⟩:=d;have hk:=(cO hc).1;subst hk;have a:=eK (hh b _ hd) hc;intro hm;rcases List.mem_cons.1 hm with q | q
 ·rw[q]at a;omega
 ·have:=p.high hh c q;omega
theorem aN.kid2_off(h:IC f){P:List Nat}{b hb:Nat}{lo hi:OB}(p:aN f t H P b hb lo hi){d:Nd}(hd:f.nodes b=some d){c:Nat}(hc:c∈kids d){d':Nd}(gd:f.nodes c=some d'){c':Nat}(bo:c'∈kids d'):c'∉b :: P∧c'∉kids d:=by
 obtain⟨uu,hh⟩:=h.ht;obtain⟨k,es⟩:=d;obtain⟨k',es'⟩:=d';have hk:=(cO hc).1;subst hk;have qr:=(cO bo).1;subst qr;have a:=eK (hh b _ hd) hc;have a':=eK (hh c _ gd) bo;refine⟨fun hm=>?_,fun hm=>?_⟩
 ·rcases List.mem_cons.1 hm with q | q
  ·rw[q]at a';omega
  ·have:=p.high hh c' q;omega
 ·have:=eK (hh b _ hd) hm;omega
theorem aN.fr(h:IC f)(ht:t<f.roots.length){P:List Nat}{b hb:Nat}{lo hi:OB}(p:aN f t H P b hb lo hi){es:List E3}{k:Int}(af:f.nodes b=some (k,es))
  {nodes':Nat→Option Nd} (C:Nat→Prop) (hC:∀x,C x→cu f x=1∧x∈kids (k,es)) (hN:∀x d,f.nodes x=some d→x≠b→¬C x→nodes' x=some d)
  {x:Nat} {d:Nd} (hx:f.nodes x=some d) (ho:x∉b :: P) (hc:¬C x) {bq:Nat} {lx ux:OB} (hk:Ok f.nodes bq x lx ux):Ok nodes' bq x lx ux∧sz nodes' x=sz f.nodes x:=by
 have J9:=p.named h ht;let U:Nat→Prop:=fun x=>(∃d,f.nodes x=some d)∧x∉b :: P∧¬C x;have lk:∀x d,U x→f.nodes x=some d→∀c∈kids d,U c:=fun x d ⟨_,pt,Hl⟩ hx c hc=>by
  refine⟨h.kid_live hx hc,fun hm=>?_,fun kz=>?_⟩
  ·exact pt (List.mem_cons_of_mem _ ((J9 c hm).2.1 x d hx hc))
  ·have:=(h.only (hC c kz).1 af (hC c kz).2).2.2 x d hx hc
   exact pt (this▸List.mem_cons_self)
 have gj:∀x,U x→nodes' x=f.nodes x:=fun x ⟨⟨d,hd⟩,pt,Hl⟩=>by
  rw[hd];exact hN x d hd (fun e=>pt (e▸List.mem_cons_self)) Hl
 refine⟨Ok.frame lk gj _ _ _ _ ⟨⟨d,hx⟩,ho,hc⟩ hk,?_⟩;unfold sz;rw[gj x ⟨⟨d,hx⟩,ho,hc⟩]
theorem aN.mono{f':fZ}{P:List Nat}{b hb:Nat}{lo hi:OB}(p:aN f t H P b hb lo hi)(hr:aB f' t=aB f t)(hc:∀y∈b :: P,cu f' y=cu f y)(hn:∀y∈P,f'.nodes y=f.nodes y):aN f' t H P b hb lo hi:=by
 induction p using aN.ind with
 | here h1=>
  rw[←hr];exact aN.here (by rw[hr,hc _ List.mem_cons_self];exact h1)
 | @down P b Ku lo hi es i p J8 ak h1 ih=>
  refine aN.down (ih (fun y hy=>hc y (List.mem_cons_of_mem _ hy)) fun y hy=>hn y (List.mem_cons_of_mem _ hy)) ?_ ak ?_
  ·rw[hn b List.mem_cons_self];exact J8
  ·rw[hc _ List.mem_cons_self];exact h1
end
structure Wk(f:fZ)(t H:Nat):Prop where
 ic:IC f
 tl:t<f.roots.length
 ok:Ok f.nodes H (aB f t) none none
 oth:∀u,u<f.roots.length→u≠t→∃h,Ok f.nodes h (aB f u) none none∧(h=0∨2≤sz f.nodes (aB f u))
theorem Wk.step{f f':fZ}{t H:Nat}(w:Wk f t H){P:List Nat}{b hb:Nat}{lo hi:OB}(p:aN f t H P b hb lo hi)(ak:IC f')(hr:f'.roots=f.roots){es:List E3}{k:Int}(af:f.nodes b=some (k,es))(C:Nat→Prop)
  (hC:∀x,C x→cu f x=1∧x∈kids (k,es)) (hN:∀x d,f.nodes x=some d→x≠b→¬C x→f'.nodes x=some d) (kf:Ok f'.nodes hb b lo hi) (bd:P≠[]→2≤sz f'.nodes b):Wk f' t H:=by
 obtain⟨g1,g2⟩:=p.upd w.ic w.tl w.ok af C hC hN kf bd;have xi:∀u,aB f' u=aB f u:=fun u=>by unfold aB;rw[hr]
 refine⟨ak,by rw[hr];exact w.tl,by rw[xi];exact g1,fun u hu yq=>?_⟩;rw[hr]at hu;obtain⟨h,h1,h2⟩:=w.oth u hu yq;obtain⟨g3,g4⟩:=g2 u hu yq;refine⟨h,by rw[xi];exact g4 h h1,?_⟩;rcases h2 with h2 | h2
 ·exact .inl h2
 ·refine .inr ?_
  unfold sz at h2 ⊢;rw[xi,g3];exact h2
theorem aN.top{f:fZ}{t H:Nat}{P:List Nat}{b hb:Nat}{lo hi:OB}(p:aN f t H P b hb lo hi):(P=[]∧b=aB f t∧hb=H)∨(aB f t∈P∧0<H):=by
 induction p using aN.ind with
 | here h1=>exact .inl ⟨rfl,rfl,rfl⟩
 | @down P b Ku lo hi es i p hn ak h1 ih=>
  rcases ih with⟨_,q,q'⟩ | ⟨q,q'⟩
  ·exact .inr ⟨by rw[q];exact List.mem_cons_self,by omega⟩
  ·exact .inr ⟨List.mem_cons_of_mem _ q,q'⟩
def cD(f:fZ)(t H:Nat):Prop:=H=0∨2≤sz f.nodes (aB f t)
theorem aN.rt{f f':fZ}{t H:Nat}{P:List Nat}{b hb:Nat}{lo hi:OB}(p:aN f t H P b hb lo hi)(hr:aB f' t=aB f t)(hn:∀y∈P,f'.nodes y=f.nodes y)(hz:0<H→P=[]→2≤sz f'.nodes b)(h:cD f t H):cD f' t H:=by
 rcases h with h | h
 ·exact .inl h
 ·by_cases h0:H=0
  ·exact .inl h0
  ·refine .inr ?_
   rw[hr];rcases p.top with⟨q1,q2,_⟩ | ⟨q,_⟩
   ·rw[←q2];exact hz (by omega) q1
   ·unfold sz at h ⊢;rw[hn _ q];exact h
def lowK(es:List E3)(key:ByteArray):List E3:=if kl key (ky es 0)=true then es.set 0 (key,(es.getD 0 e0).2)else es
theorem cI(es:List E3)(key:ByteArray):(lowK es key).length=es.length:=by unfold lowK;split<;>simp
theorem zE(es:List E3)(key:ByteArray)(j:Nat)(hn:es≠[]):((lowK es key).getD j e0).2=(es.getD j e0).2∧(0<j→ky (lowK es key) j=ky es j):=by
 have h0:0<es.length:=List.length_pos_iff.2 hn;unfold lowK;split
 ·simp only[ky,bB _ _ _ _ _ h0]
  by_cases e:j=0
  ·subst e;simp
  ·simp[e]
 ·exact⟨rfl,fun _=>rfl⟩
theorem vF(es:List E3)(key:ByteArray)(hn:es≠[]):kl key (ky (lowK es key) 0)=false∧(ky (lowK es key) 0=ky es 0∨(ky (lowK es key) 0=key∧kl key (ky es 0)=true)):=by
 have h0:0<es.length:=List.length_pos_iff.2 hn;unfold lowK;split
 ·rename_i h
  have:ky (es.set 0 (key,(es.getD 0 e0).2)) 0=key:=by simp only[ky,bB _ _ _ _ _ h0,if_true]
  rw[this];exact⟨eA _,.inr ⟨rfl,h⟩⟩
 ·rename_i h;exact⟨by simpa using h,.inl rfl⟩
theorem aEN(es:List E3)(key:ByteArray)(hn:es≠[]):kids (2,lowK es key)=kids (2,es):=by
 have h0:0<es.length:=List.length_pos_iff.2 hn;rw[gK,gK];unfold lowK;split
 ·rw[List.map_set]
  have:ch (key,(es.getD 0 e0).2)=(es.map ch).getD 0 0:=(gJ _ _ h0).symm
  rw[this];refine List.ext_getElem? fun j=>?_;rw[List.getElem?_set];split
  ·rename_i h;subst h;simp[gD,h0]
  ·rfl
 ·rfl
theorem nJ{l:List E3}{j:Nat}(h:j<l.length):l.getD j e0∈l:=by
 rw[gD,gE h];exact List.getElem_mem h
theorem cN{l:List E3}{e:E3}(h:e∈l):∃j,j<l.length∧l.getD j e0=e:=by
 obtain⟨j,hj,rfl⟩:=List.mem_iff_getElem.1 h;exact⟨j,hj,by rw[gD,gE hj];rfl⟩
theorem IC.child_pos{f:fZ}(h:IC f){b:Nat}{es:List E3}(hd:f.nodes b=some (2,es)){j:Nat}(hj:j<es.length):0≤(es.getD j e0).2.2:=by
 rcases h.kb b _ hd with q | ⟨_,_,q⟩
 ·simp at q
 ·exact(q _ (nJ hj)).1
theorem Wk.lowKey{f:fZ}{t H:Nat}(w:Wk f t H){P:List Nat}{b h:Nat}{lo hi:OB}(p:aN f t H P b (h+1) lo hi){es:List E3}(af:f.nodes b=some (2,es))(key:ByteArray)(hk:loR lo key):
  Wk (setN f b (2,lowK es key)) t H∧aN (setN f b (2,lowK es key)) t H P b (h+1) lo hi∧(cD f t H→cD (setN f b (2,lowK es key)) t H):=by
 obtain⟨es',e1,e2,e3,e4,e5⟩:=(p.ok w.ok).1;rw[af]at e1;cases e1;have bw:=fun j=>zE es key j e3;have ie:∀j,kd (lowK es key) j=kd es j:=fun j=>by unfold kd ch;rw[(bw j).1]
 obtain⟨z1,z2⟩:=vF es key e3;have hI:IC (setN f b (2,lowK es key)):=w.ic.keys af (aEN es key e3) fun _ e he=>by
  obtain⟨j,hj,rfl⟩:=cN he;rw[cI]at hj;rw[(bw j).1];exact w.ic.child_pos af hj
 have vp:(setN f b (2,lowK es key)).nodes b=some (2,lowK es key):=aD _ _ _;have uo:∀x,x≠b→(setN f b (2,lowK es key)).nodes x=f.nodes x:=fun x hx=>aC _ _ hx;have av:∀y∈P,y≠b:=fun y hy e=>by
  obtain⟨uu,hh⟩:=w.ic.ht;have:=p.high hh y hy;rw[e]at this;omega
 have Jq:∀j,j<es.length→kl (ky es j) (ky (lowK es key) j)=false:=fun j hj=>by
  cases j with
  | zero=>
   rcases z2 with q | ⟨q,q'⟩
   ·rw[q];exact eA _
   ·rw[q];exact eN q'
  | succ j=>rw[(bw (j+1)).2 (by omega)];exact eA _
 have iy:∀j,nxt (lowK es key) j hi=nxt es j hi:=fun j=>by
  unfold nxt;rw[cI,(bw (j+1)).2 (by omega)]
 refine⟨w.step p hI rfl af (fun _=>False) (fun _ q=>q.elim) (fun x d hx uv _=>by rw[uo x uv];exact hx) ?_ ?_,p.mono rfl (fun _ _=>rfl) (fun y hy=>uo y (av y hy)),fun hr=>p.rt rfl (fun y hy=>uo y (av y hy)) (fun h0 hP=>?_) hr⟩
 ·refine⟨lowK es key,vp,⟨?_,?_,?_,by rw[cI];exact e2.le5⟩,?_,?_,?_⟩
  ·intro i j g8 hj
   rw[cI]at hj;rw[(bw j).2 (by omega)];exact kW (Jq i (by omega)) (e2.srt i j g8 hj)
  ·intro j hj
   rw[cI]at hj;cases j with
   | zero=>
    rcases z2 with q | ⟨q,q'⟩
    ·rw[q];exact e2.lo 0 hj
    ·rw[q];exact hk
   | succ j=>rw[(bw (j+1)).2 (by omega)];exact e2.lo _ hj
  ·intro j hj
   rw[cI]at hj;have a:=e2.hi j hj;cases hi with
   | none=>trivial
   | some u=>exact kW (Jq j hj) a
  ·intro q;exact e3 (List.length_eq_zero_iff.1 (by rw[←cI es key,q];rfl))
  ·intro j hj;rw[cI]at hj;rw[(bw j).1];exact e4 j hj
  ·intro j hj
   rw[cI]at hj;rw[ie,iy];obtain⟨d,hd⟩:=w.ic.kid_live af (aP hj);obtain⟨g1,g2⟩:=p.fr w.ic w.tl af (nodes':=(setN f b (2,lowK es key)).nodes) (fun _=>False) (fun _ q=>q.elim) (fun x d hx uv _=>by rw[uo x uv];exact hx) hd (p.kid_off w.ic af (aP hj)) id (e5 j hj).2;refine⟨by rw[g2];exact(e5 j hj).1,g1.wide (fun k hk=>?_) fun _ q=>q⟩;exact fF (Jq j hj) hk
 ·intro hP
  have:=(p.ok w.ok).2 hP
  unfold sz at this ⊢;rw[vp];rw[af]at this;simp only[cI]at *;exact this
 ·rcases hr with hr | hr
  ·omega
  ·rcases p.top with⟨_,q,_⟩ | ⟨q,_⟩
   ·unfold sz at hr ⊢;rw[vp];rw[←q,af]at hr;simp only[cI]at *;exact hr
   ·rw[hP]at q;cases q
end Go.Proofs.YtaahkgkdpnnhhaaGreat.Fo
namespace Go.Proofs.YtaahkgkdpnnhhaaGreat.Fo
variable{H b h q t x:Nat}{d:Nd}{hi lo:OB}{f:fZ}
theorem mR(h:IC f){u:Nat}(ht:t<f.roots.length)(hu:u<f.roots.length)(yq:u≠t)(h1:cu f (aB f t)=1):aB f u≠aB f t:=fun a3=>by
 have a:=(h.onlyRoot (aO ht) h1).1;have JQ:=fQ (f.roots.map fun r=>r.2.toNat) t (aB f t) (by simpa using ht);have g1:(f.roots.map fun r=>r.2.toNat).getD t 0=aB f t:=by simp[aB,gD,ht]
 have g2:(f.roots.map fun r=>r.2.toNat).getD u 0=aB f t:=by rw[←a3];simp[aB,gD,hu]
 rw[g1,cA]at JQ;have N6:(f.roots.map fun r=>r.2.toNat).count (aB f t)=1:=a;have h0:(delE (f.roots.map fun r=>r.2.toNat) t).count (aB f t)=0:=by omega
 refine List.count_eq_zero.1 h0 ?_;have fy:u <(f.roots.map fun r=>r.2.toNat).length:=by simpa using hu
 rw[gD,gE fy]at g2;simp only[Option.getD_some]at g2;rw[←g2];unfold delE;by_cases ai:u<t
 ·exact List.mem_append_left _ (List.mem_take_iff_getElem.2 ⟨u,by omega,rfl⟩)
 ·refine List.mem_append_right _ (List.mem_drop_iff_getElem.2 ⟨u -(t+1),by omega,?_⟩)
  congr 1;omega
theorem nD(hb:b<f.cur.length)(hd:f.nodes b=some d)(hk:∀c∈kids d,c<f.cur.length)(h1:x≠b)(h2:x∉kids d):cu (letGo f b) x=cu f x:=by
 by_cases e:cu f b=1
 ·unfold letGo;rw[if_pos e]
  show(List.set _ b 0).getD x 0=_
  rw[fE _ _ _ _ hb,if_neg (Ne.symm h1)]
 ·rw[qX hb hd hk e,if_neg (Ne.symm h1),List.count_eq_zero.2 h2];simp
theorem uQ(h:IC f){L:Loc}(hL:dO f L)(hb:bJ f L=b)(hd:f.nodes b=some d)(mj:q<f.cur.length)(hc:cu f q=0)(h1:x≠b)(h2:x∉kids d)(h3:x≠q):
  cu (shadowAt f L q) x=cu f x:=by
 have dh:f.nodes q=none:=(h.dom.dead q).2 hc;have mh:b≠q:=fun e=>by rw[e,dh]at hd;cases hd
 have hs:shadowAt f L q=letGo (setL (takeAt f q d) L q) b:=by unfold shadowAt;rw[hb,aE hd]
 have hl:(setL (takeAt f q d) L q).cur.length=f.cur.length:=by rw[bG];simp[takeAt]
 have sm:(setL (takeAt f q d) L q).nodes b=some d:=by
  cases L with
  | inl t=>show upd f.nodes q (some d) b=_;rw[aC _ _ mh];exact hd
  | inr bi=>
   obtain⟨p,i⟩:=bi;obtain⟨hp,es,he,hi⟩:=hL;have Rb:p≠q:=fun e=>by rw[e,dh]at he;cases he
   have Au:look f p=(2,es):=aE he;have qa:b∈kids (2,es):=by rw[←hb];simp only[bJ,Au];exact gL hi
   have qt:p≠b:=fun e=>h.not_self he (e▸qa);simp only[setL,setN];rw[aC _ _ (Ne.symm qt)];show upd f.nodes q (some d) b=_;rw[aC _ _ mh];exact hd
 rw[hs,nD (by rw[hl];exact h.lt hd) sm (fun c hc=>by rw[hl];exact h.kid_lt hd hc) h1 h2];unfold cu;rw[bG];have:=dQ d mj x;unfold cu at this;rw[this,if_neg (Ne.symm h3)]
theorem eI(f:fZ)(b i q:Nat):(shadowAt f (.ent b i) q).roots=f.roots:=by
 unfold shadowAt;rw[dS];rfl
theorem dH(f:fZ)(t q:Nat):(shadowAt f (.root t) q).roots=f.roots.set t ((f.roots.getD t (0,0)).1,(q:Int)):=by
 unfold shadowAt;rw[dS];rfl
theorem Ok.copy{nodes nodes':Nat→Option Nd}(hd:nodes b=some d)(hq:nodes' q=some d)(hk:Ok nodes h b lo hi)
  (hf:∀c∈kids d,∀h' lo' ak,Ok nodes h' c lo' ak→Ok nodes' h' c lo' ak∧sz nodes' c=sz nodes c):Ok nodes' h q lo hi:=by
 cases h with
 | zero=>obtain⟨es,e1,e2⟩:=hk;rw[hd]at e1;cases e1;exact⟨es,hq,e2⟩
 | succ h=>
  obtain⟨es,e1,e2,e3,e4,e5⟩:=hk;rw[hd]at e1;cases e1;refine⟨es,hq,e2,e3,e4,fun j hj=>?_⟩;obtain⟨g1,g2⟩:=hf _ (aP hj) _ _ _ (e5 j hj).2;exact⟨by rw[g2];exact(e5 j hj).1,g1⟩
theorem Wk.shadowEnt(w:Wk f t H){P:List Nat}(p:aN f t H P b (h+1) lo hi){es:List E3}(af:f.nodes b=some (2,es)){i:Nat}(ak:i<es.length)(hd:f.nodes (kd es i)=some d)(h9:2≤q)(mj:q<f.cur.length)(hc:cu f q=0):
  Wk (shadowAt f (.ent b i) q) t H∧aN (shadowAt f (.ent b i) q) t H P b (h+1) lo hi∧aN (shadowAt f (.ent b i) q) t H (b :: P) q h (some (ky es i)) (nxt es i hi)∧
   (shadowAt f (.ent b i) q).nodes b=some (setE (2,es) i q)∧(shadowAt f (.ent b i) q).nodes q=some d∧cu (shadowAt f (.ent b i) q) q=1∧(shadowAt f (.ent b i) q).com=f.com∧(shadowAt f (.ent b i) q).cur.length=f.cur.length∧(cD f t H→cD (shadowAt f (.ent b i) q) t H):=by
 have gx:look f b=(2,es):=aE af;have hL:dO f (.ent b i):=⟨w.ic.lt af,es,af,ak⟩;have hg:bJ f (.ent b i)=kd es i:=by simp only[bJ,gx];rfl
 obtain⟨I1,I2,I3,I4,I5⟩:=w.ic.shadow hL hg hd h9 mj hc;have dh:f.nodes q=none:=(w.ic.dom.dead q).2 hc;have fi:=aP ak;have sc:kd es i≠b:=fun e=>w.ic.not_self af (by rw[←e];exact fi);have AH:kd es i≠q:=fun e=>by rw[e,dh]at hd;cases hd
 have mh:b≠q:=fun e=>by rw[e,dh]at af;cases af
 have AW:=w.ic.not_self hd;obtain⟨es',e1,e2,e3,e4,e5⟩:=(p.ok w.ok).1;rw[af]at e1;cases e1;have nb:(shadowAt f (.ent b i) q).nodes b=some (setE (2,es) i q):=by
  rw[I2];unfold shN cpN;simp only[gx];split
  ·rw[aC _ _ (Ne.symm sc),aD]
  ·rw[aD]
 have nq:(shadowAt f (.ent b i) q).nodes q=some d:=by
  rw[I2];unfold shN cpN;simp only;split
  ·rw[aC _ _ (Ne.symm AH),aC _ _ (Ne.symm mh),aD]
  ·rw[aC _ _ (Ne.symm mh),aD]
 have nx:∀x,x≠b→x≠q→¬(x=kd es i∧cu f (kd es i)=1)→(shadowAt f (.ent b i) q).nodes x=f.nodes x:=fun x h1 h2 h3=>by
  rw[I2];unfold shN cpN;simp only;split
  ·rename_i ot
   rw[aC _ _ (fun e=>h3 ⟨e,ot⟩),aC _ _ h1,aC _ _ h2]
  ·rw[aC _ _ h1,aC _ _ h2]
 have en:∀{x:Nat} {d':Nd},f.nodes x=some d'→x≠q:=fun hx e=>by rw[e,dh]at hx;cases hx
 have fr:=fun {x:Nat} {d':Nd} (hx:f.nodes x=some d')=>p.fr w.ic w.tl af (nodes':=(shadowAt f (.ent b i) q).nodes) (fun x=>x=kd es i∧cu f (kd es i)=1) (fun x ⟨q1,q2⟩=>⟨by rw[q1];exact q2,by rw[q1];exact fi⟩) (fun x d hx uv Ae=>by rw[nx x uv (en hx) Ae];exact hx) hx;have Cy:∀j,((es.set i ((es.getD i e0).1,(es.getD i e0).2.1,(q:Int))).getD j e0).1=ky es j∧((es.set i ((es.getD i e0).1,(es.getD i e0).2.1,(q:Int))).getD j e0).2.1=(es.getD j e0).2.1∧kd (es.set i ((es.getD i e0).1,(es.getD i e0).2.1,(q:Int))) j=if j=i then q else kd es j:=fun j=>by
  unfold kd;rw[bB _ _ _ _ _ ak];by_cases e:j=i
  ·subst e;simp[ky,ch]
  ·simp[e,ky]
 have hP:∀y∈b :: P,cu (shadowAt f (.ent b i) q) y=cu f y:=fun y hy=>by
  obtain⟨dy,JX⟩:=p.live w.ic w.tl y hy;refine uQ w.ic hL hg hd mj hc (fun e=>?_) (fun hk=>?_) (en JX)
  ·exact p.kid_off w.ic af fi (e▸hy)
  ·exact(p.kid2_off w.ic af fi hd hk).1 hy
 have sm:(shadowAt f (.ent b i) q).nodes b=some (2,es.set i ((es.getD i e0).1,(es.getD i e0).2.1,(q:Int))):=nb;have CI:∀y∈P,(shadowAt f (.ent b i) q).nodes y=f.nodes y:=fun y hy=>by
  obtain⟨dy,JX⟩:=p.live w.ic w.tl y (List.mem_cons_of_mem _ hy);refine nx y (fun e=>?_) (en JX) fun q'=>?_
  ·obtain⟨uu,hh⟩:=w.ic.ht
   have:=p.high hh y hy;rw[e]at this;omega
  ·exact p.kid_off w.ic af fi (q'.1▸List.mem_cons_of_mem _ hy)
 have p':aN (shadowAt f (.ent b i) q) t H P b (h+1) lo hi:=p.mono (by unfold aB;rw[eI]) hP CI;have ah:(es.set i ((es.getD i e0).1,(es.getD i e0).2.1,(q:Int))).length=es.length:=by simp
 have M8:∀j,nxt (es.set i ((es.getD i e0).1,(es.getD i e0).2.1,(q:Int))) j hi=nxt es j hi:=fun j=>by
  unfold nxt;rw[ah];unfold ky;rw[(Cy (j+1)).1];rfl
 have ui:∀c∈kids d,∀h' lo' ak,Ok f.nodes h' c lo' ak→Ok (shadowAt f (.ent b i) q).nodes h' c lo' ak∧sz (shadowAt f (.ent b i) q).nodes c=sz f.nodes c:=fun c bo h' lo' ak hk=>by
  obtain⟨dc,i9⟩:=w.ic.kid_live hd bo;exact fr i9 (p.kid2_off w.ic af fi hd bo).1 (fun q'=>AW (q'.1▸bo)) hk
 refine⟨w.step p I1 (eI f b i q) af (fun x=>x=kd es i∧cu f (kd es i)=1) (fun x ⟨q1,q2⟩=>⟨by rw[q1];exact q2,by rw[q1];exact fi⟩) (fun x d hx uv Ae=>by rw[nx x uv (en hx) Ae];exact hx) ?_ ?_,p',?_,nb,nq,I5,I4,I3,fun hr=>p.rt (by unfold aB;rw[eI]) CI (fun h0 hP=>?_) hr⟩
 ·refine⟨_,sm,⟨?_,?_,?_,by rw[ah];exact e2.le5⟩,?_,?_,?_⟩
  ·intro a c xh bo
   rw[ah]at bo;unfold ky;rw[(Cy a).1,(Cy c).1];exact e2.srt a c xh bo
  ·intro j hj;rw[ah]at hj;unfold ky;rw[(Cy j).1];exact e2.lo j hj
  ·intro j hj;rw[ah]at hj;unfold ky;rw[(Cy j).1];exact e2.hi j hj
  ·intro e;exact e3 (List.length_eq_zero_iff.1 (by rw[←ah,e];rfl))
  ·intro j hj;rw[ah]at hj;rw[(Cy j).2.1];exact e4 j hj
  ·intro j hj
   rw[ah]at hj;rw[M8,(Cy j).2.2];unfold ky;rw[(Cy j).1];by_cases e:j=i
   ·subst e
    rw[if_pos rfl];refine⟨?_,Ok.copy hd nq (e5 j hj).2 ui⟩;have:=(e5 j hj).1;unfold sz at this ⊢;rw[nq];rw[hd]at this;exact this
   ·rw[if_neg e]
    obtain⟨dj,JT⟩:=w.ic.kid_live af (aP hj);obtain⟨g1,g2⟩:=fr JT (p.kid_off w.ic af (aP hj)) (fun q'=>e (dU (w.ic.only q'.2 af fi).2.1 ak hj q'.1)) (e5 j hj).2;exact⟨by rw[g2];exact(e5 j hj).1,g1⟩
 ·intro Pu
  have:=(p.ok w.ok).2 Pu
  unfold sz at this ⊢;rw[sm];rw[af]at this;simp only[ah]at *;exact this
 ·have LC:kd (es.set i ((es.getD i e0).1,(es.getD i e0).2.1,(q:Int))) i=q:=by rw[(Cy i).2.2,if_pos rfl]
  have:=aN.down p' sm (i:=i) (by rw[ah];exact ak) (by rw[LC];exact I5)
  rw[LC,M8]at this;have qr:ky (es.set i ((es.getD i e0).1,(es.getD i e0).2.1,(q:Int))) i=ky es i:=(Cy i).1;rw[qr]at this;exact this
 ·rcases hr with hr | hr
  ·omega
  ·rcases p.top with⟨_,q',_⟩ | ⟨q',_⟩
   ·unfold sz at hr ⊢;rw[sm];rw[←q',af]at hr;simp only[ah]at *;exact hr
   ·rw[hP]at q';cases q'
theorem Wk.shadowRoot(w:Wk f t H)(hd:f.nodes (aB f t)=some d)(h9:2≤q)(mj:q<f.cur.length)(hc:cu f q=0):
  Wk (shadowAt f (.root t) q) t H∧aN (shadowAt f (.root t) q) t H [] q H none none∧aB (shadowAt f (.root t) q) t=q∧(shadowAt f (.root t) q).nodes q=some d∧(shadowAt f (.root t) q).com=f.com∧(shadowAt f (.root t) q).cur.length=f.cur.length∧(cD f t H→cD (shadowAt f (.root t) q) t H):=by
 obtain⟨I1,I2,I3,I4,I5⟩:=w.ic.shadow (L:=.root t) w.tl rfl hd h9 mj hc;have dh:f.nodes q=none:=(w.ic.dom.dead q).2 hc;have mh:aB f t≠q:=fun e=>by rw[e,dh]at hd;cases hd
 have hr:aB (shadowAt f (.root t) q) t=q:=by
  unfold aB;rw[dH];simp[gD,w.tl]
 have FE:∀u,u≠t→aB (shadowAt f (.root t) q) u=aB f u:=fun u hu=>by
  unfold aB;rw[dH];simp only[gD,List.getElem?_set,if_neg (Ne.symm hu)]
 have vu:(shadowAt f (.root t) q).nodes=if cu f (aB f t)=1 then upd (upd f.nodes q (some d)) (aB f t) none else upd f.nodes q (some d):=I2;have nq:(shadowAt f (.root t) q).nodes q=some d:=by
  rw[vu];split
  ·rw[aC _ _ (Ne.symm mh),aD]
  ·rw[aD]
 let U:Nat→Prop:=fun x=>(∃d,f.nodes x=some d)∧(cu f (aB f t)=1→x≠aB f t)
 have lk:∀x d,U x→f.nodes x=some d→∀c∈kids d,U c:=fun x d' _ hx c bo=>
  ⟨w.ic.kid_live hx bo,fun h1 e=>(w.ic.onlyRoot (aO w.tl) h1).2 x d' hx (by have:c=(f.roots.getD t (0,0)).2.toNat:=e;rw[←this];exact bo)⟩
 have gj:∀x,U x→(shadowAt f (.root t) q).nodes x=f.nodes x:=fun x ⟨⟨d',hx⟩,h1⟩=>by
  have Bx:x≠q:=fun e=>by rw[e,dh]at hx;cases hx
  rw[vu];split
  ·rename_i ot;rw[aC _ _ (h1 ot),aC _ _ Bx]
  ·rw[aC _ _ Bx]
 have fr:=Ok.frame lk gj;refine⟨⟨I1,by rw[dH];simpa using w.tl,?_,fun u hu yq=>?_⟩,?_,hr,nq,I4,I3,fun hz=>hz.imp id fun hz=>by rw[hr];unfold sz at hz ⊢;rw[nq];rw[hd]at hz;exact hz⟩
 ·rw[hr]
  refine Ok.copy hd nq w.ok fun c bo h' lo' ak hk=>?_;have Ap:U c:=⟨w.ic.kid_live hd bo,fun _ e=>w.ic.not_self hd (e▸bo)⟩;exact⟨fr _ _ _ _ Ap hk,by unfold sz;rw[gj c Ap]⟩
 ·rw[dH]at hu
  have hu:u<f.roots.length:=by simpa using hu
  obtain⟨h,h1,h2⟩:=w.oth u hu yq;have Dw:U (aB f u):=⟨w.ic.root_live (aO hu),fun h1=>mR w.ic w.tl hu yq h1⟩;refine⟨h,by rw[FE u yq];exact fr _ _ _ _ Dw h1,?_⟩;rcases h2 with h2 | h2
  ·exact .inl h2
  ·refine .inr ?_
   unfold sz at h2 ⊢;rw[FE u yq,gj _ Dw];exact h2
 ·have:=aN.here (f:=shadowAt f (.root t) q) (t:=t) (H:=H) (by rw[hr];exact I5)
  rw[hr]at this;exact this
