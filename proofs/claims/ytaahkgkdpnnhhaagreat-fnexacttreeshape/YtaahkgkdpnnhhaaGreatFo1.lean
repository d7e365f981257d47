import Derived.Test.YtaahkgkdpnnhhaaGreatSh0
set_option linter.all false
namespace Go.Proofs.YtaahkgkdpnnhhaaGreat.Fo
variable{k:Int}{r:Int×Int}{a b c i m n p q s t v x:Nat}{g g' ht:Nat→Nat}{α:Type}
abbrev E3:=ByteArray×ByteArray×Int
abbrev e0:E3:=(.empty,.empty,0)
abbrev Nd:=Int×List E3
structure fZ where
 roots:List (Int×Int)
 next:Int
 gen:Int
 nodes:Nat→Option Nd
 cur:List Int
 com:List Int
 table:List Int
def cu(f:fZ)(b:Nat):Int:=f.cur.getD b 0
def co(f:fZ)(b:Nat):Int:=f.com.getD b 0
def look(f:fZ)(b:Nat):Nd:=(f.nodes b).getD (0,[])
def ch(e:E3):Nat:=e.2.2.toNat
def kids(d:Nd):List Nat:=if d.1=2 then d.2.map ch else []
def bZ:Option Nd→List Nat
 | none=>[]
 | some d=>kids d
def upd(g:Nat→α)(b:Nat)(v:α):Nat→α:=fun x=>if x=b then v else g x
theorem aD(g:Nat→α)(b:Nat)(v:α):upd g b v b=v:=by simp[upd]
theorem aC(g:Nat→α)(v:α)(h:x≠b):upd g b v x=g x:=by simp[upd,h]
def cR:Nat→(Nat→Nat)→Nat
 | 0,_=>0
 | n+1,g=>cR n g+g n
theorem pT(h:∀x,x<n→g x=g' x):cR n g=cR n g':=by
 induction n with
 | zero=>rfl
 | succ n ih=>simp only[cR];rw[ih fun x hx=>h x (by omega),h n (by omega)]
theorem lS(hb:b<n)(h:∀x,x≠b→g' x=g x):cR n g'+g b=cR n g+g' b:=by
 induction n with
 | zero=>omega
 | succ n ih=>
  simp only[cR];by_cases e:b=n
  ·subst e
   rw[pT (g:=g') (g':=g) fun x hx=>h x (by omega)];omega
  ·have:=ih (by omega)
   rw[h n (fun q=>e q.symm)];omega
theorem oI(hb:b<n):g b≤cR n g:=by
 induction n with
 | zero=>omega
 | succ n ih=>
  simp only[cR];by_cases e:b=n
  ·subst e;omega
  ·have:=ih (by omega);omega
theorem aEX(ha:a<n)(hb:b<n)(pz:a≠b):g a+g b≤cR n g:=by
 induction n with
 | zero=>omega
 | succ n ih=>
  simp only[cR];by_cases e:b=n
  ·subst e;have:=oI (g:=g) (show a<b by omega);omega
  ·by_cases e':a=n
   ·subst e';have:=oI (g:=g) (show b<a by omega);omega
   ·have:=ih (by omega) (by omega);omega
theorem jO(h:0<cR n g):∃x,x<n∧0<g x:=by
 induction n with
 | zero=>simp[cR]at h
 | succ n ih=>
  simp only[cR]at h;by_cases e:0<g n
  ·exact⟨n,by omega,e⟩
  ·obtain⟨x,hx,hg⟩:=ih (by omega);exact⟨x,by omega,hg⟩
def deg(nodes:Nat→Option Nd)(n b:Nat):Nat:=cR n fun x=>(bZ (nodes x)).count b
def rc(roots:List (Int×Int))(b:Nat):Nat:=(roots.map fun r=>r.2.toNat).count b
theorem wJ(nodes:Nat→Option Nd)(v:Option Nd)(hx:x<n)(b:Nat):deg (upd nodes x v) n b+(bZ (nodes x)).count b=deg nodes n b+(bZ v).count b:=by
 have:=lS (n:=n) (g:=fun y=>(bZ (nodes y)).count b) (g':=fun y=>(bZ (upd nodes x v y)).count b) hx (fun y hy=>by simp only[aC _ _ hy])
 simpa [deg,aD] using this
theorem eM(l:List Int)(i j:Nat)(v:Int):(l.set i v).getD j 0=if i=j∧i<l.length then v else l.getD j 0:=by
 simp only[gD,List.getElem?_set];by_cases h:i=j
 ·subst h
  by_cases h2:i<l.length
  ·simp[h2]
  ·simp[h2]
 ·simp[h]
def iL(c:List Int):List Nat→List Int
 | []=>c
 | k :: l=>iL (c.set k (c.getD k 0+1)) l
theorem mK(l:List Nat)(c:List Int):(iL c l).length=c.length:=by
 induction l generalizing c with
 | nil=>rfl
 | cons k l ih=>simp only[iL];rw[ih];simp
theorem rW(l:List Nat)(c:List Int)(h:∀k∈l,k<c.length)(b:Nat):(iL c l).getD b 0=c.getD b 0+(l.count b:Nat):=by
 induction l generalizing c with
 | nil=>simp[iL]
 | cons k l ih=>
  simp only[iL];rw[ih _ (fun x hx=>by simpa using h x (List.mem_cons_of_mem _ hx)),eM,List.count_cons];have hk:k<c.length:=h k (by simp);by_cases e:k=b
  ·subst e;simp[hk];omega
  ·simp[e]
def df(f:fZ)(x:Nat):Int:=cu f x -((rc f.roots x+deg f.nodes f.cur.length x:Nat):Int)
def setN(f:fZ)(b:Nat)(d:Nd):fZ:={f with nodes:=upd f.nodes b (some d)}
def takeAt(f:fZ)(q:Nat)(d:Nd):fZ:={f with nodes:=upd f.nodes q (some d),cur:=f.cur.set q 1}
def freeB(f:fZ)(b:Nat):fZ:={f with nodes:=upd f.nodes b none,cur:=f.cur.set b 0}
def letGo(f:fZ)(b:Nat):fZ:=
 if cu f b=1 then freeB f b else {f with cur:=iL (f.cur.set b (cu f b-1)) (bZ (f.nodes b))}
abbrev Loc:=Sum Nat (Nat×Nat)
abbrev Loc.root(t:Nat):Loc:=.inl t
abbrev Loc.ent(b i:Nat):Loc:=.inr (b,i)
def setE(d:Nd)(i:Nat)(q:Nat):Nd:=(d.1,d.2.set i ((d.2.getD i e0).1,(d.2.getD i e0).2.1,(q:Int)))
def bI(f:fZ):Loc→Nat
 | .inl t=>(f.roots.getD t (0,0)).2.toNat
 | .inr (b,i)=>ch ((look f b).2.getD i e0)
def setL(f:fZ)(L:Loc)(q:Nat):fZ:=match L with
 | .inl t=>{f with roots:=f.roots.set t ((f.roots.getD t (0,0)).1,(q:Int))}
 | .inr (b,i)=>setN f b (setE (look f b) i q)
def one(b x:Nat):Nat:=if b=x then 1 else 0
theorem cA(b:Nat):one b b=1:=by simp[one]
theorem fT(h:b≠x):one b x=0:=by simp[one,h]
theorem fC(f:fZ)(q x:Nat)(v:Int)(hq:q<f.cur.length):(f.cur.set q v).getD x 0=if q=x then v else cu f x:=by
 rw[eM];simp[hq,cu]
theorem gA{f:fZ}{d d':Nd}(hb:b<f.cur.length)(hd:f.nodes b=some d)(x:Nat):
  df (setN f b d') x=df f x+((kids d).count x:Int) -((kids d').count x:Int):=by
 have:=wJ f.nodes (some d') hb x
 rw[hd]at this;simp only[bZ]at this;simp only[df,setN,cu];omega
theorem lM{f:fZ}{d:Nd}(hq:q<f.cur.length)(hn:f.nodes q=none)(hc:cu f q=0)(x:Nat):
  df (takeAt f q d) x=df f x+(one q x:Int) -((kids d).count x:Int):=by
 have:=wJ f.nodes (some d) hq x
 rw[hn]at this;simp only[bZ,List.count_nil]at this;have hg:=fC f q x 1 hq;simp only[df,takeAt,cu,List.length_set]at *;rw[hg];by_cases e:q=x
 ·subst e;rw[if_pos rfl,cA];omega
 ·rw[if_neg e,fT e];omega
theorem rJ{f:fZ}{d:Nd}(hb:b<f.cur.length)(hd:f.nodes b=some d)(hc:cu f b=1)(x:Nat):
  df (freeB f b) x=df f x -(one b x:Int)+((kids d).count x:Int):=by
 have:=wJ f.nodes none hb x
 rw[hd]at this;simp only[bZ,List.count_nil]at this;have hg:=fC f b x 0 hb;simp only[df,freeB,cu,List.length_set]at *;rw[hg];by_cases e:b=x
 ·subst e;rw[if_pos rfl,cA];omega
 ·rw[if_neg e,fT e];omega
theorem yD{f:fZ}{d:Nd}(hb:b<f.cur.length)(hd:f.nodes b=some d)(hk:∀c∈kids d,c<f.cur.length)(x:Nat):
  df (letGo f b) x=df f x -(one b x:Int)+((kids d).count x:Int):=by
 unfold letGo;by_cases hc:cu f b=1
 ·rw[if_pos hc];exact rJ hb hd hc x
 ·rw[if_neg hc,hd]
  simp only[bZ,df,cu,mK,List.length_set];rw[rW _ _ (fun k qp=>by simpa using hk k qp)];have hg:=fC f b x (cu f b-1) hb;simp only[cu]at hg;rw[hg];by_cases e:b=x
  ·subst e;rw[if_pos rfl,cA];omega
  ·rw[if_neg e,fT e];omega
theorem count_set{l:List Nat}(v x:Nat)(hi:i<l.length):(l.set i v).count x+(one (l.getD i 0) x)=l.count x+(one v x):=by
 induction l generalizing i with
 | nil=>simp at hi
 | cons a l ih=>
  cases i with
  | zero=>simp only[List.set_cons_zero,List.count_cons,List.getD_cons_zero,beq_iff_eq,one];omega
  | succ i=>
   simp only[List.set_cons_succ,List.count_cons,List.getD_cons_succ];have:=ih (i:=i) (by simpa using hi);omega
theorem gJ(l:List E3)(i:Nat)(h:i<l.length):(l.map ch).getD i 0=ch (l.getD i e0):=by
 simp[gD,h]
theorem aFW(l:List E3)(i q:Nat):(l.set i ((l.getD i e0).1,(l.getD i e0).2.1,(q:Int))).map ch=(l.map ch).set i q:=by
 rw[List.map_set];congr 1
theorem aDX{d:Nd}(h2:d.1=2)(i q x:Nat)(hi:i<d.2.length):
  ((kids (setE d i q)).count x:Nat)+(one (ch (d.2.getD i e0)) x)=(kids d).count x+(one q x):=by
 simp only[kids,setE,h2,if_true];rw[aFW];have:=count_set (l:=d.2.map ch) (i:=i) q x (by simpa using hi);rw[gJ _ _ hi]at this;exact this
def dR(f:fZ):Loc→Prop
 | .inl t=>t<f.roots.length
 | .inr (b,i)=>b<f.cur.length∧∃es,f.nodes b=some (2,es)∧i<es.length
theorem aLP{rs:List (Int×Int)}(q x:Nat)(a:Int)(ht:t<rs.length):rc (rs.set t (a,(q:Int))) x+(one ((rs.getD t (0,0)).2.toNat) x)=rc rs x+(one q x):=by
 simp only[rc,List.map_set,Int.toNat_natCast];have:=count_set (l:=rs.map fun r=>r.2.toNat) (i:=t) q x (by simpa using ht);rw[←this];congr 2;simp[gD,ht]
theorem wK{f:fZ}{L:Loc}(h:dR f L)(hb:bI f L=b)(q x:Nat):
  df (setL f L q) x=df f x+(one b x:Int) -(one q x:Int):=by
 subst hb;cases L with
 | inl t=>
  have:=aLP (rs:=f.roots) q x (f.roots.getD t (0,0)).1 h
  simp only[df,setL,cu,bI]at *;omega
 | inr bi=>
  obtain⟨b,i⟩:=bi;obtain⟨hb,es,he,hi⟩:=h;have hl:look f b=(2,es):=by simp[look,he]
  have h1:=gA (d':=setE (2,es) i q) hb he x;have h2:=aDX (d:=(2,es)) rfl i q x hi;simp only[setL,bI,hl];simp only at h2;rw[h1];omega
def kJ(n:Nat)(d:Nd):Prop:=d.1=1∨(d.1=2∧d.2≠[]∧∀e∈d.2,0≤e.2.2∧ch e<n)
def HtN(ht:Nat→Nat)(v:Nat)(d:Nd):Prop:=(d.1=1∧v=0)∨(d.1=2∧∀c∈kids d,ht c+1=v)
def Hts(nodes:Nat→Option Nd)(ht:Nat→Nat):Prop:=∀b d,nodes b=some d→HtN ht (ht b) d
structure Dom(f:fZ):Prop where
 dead:∀b,f.nodes b=none↔cu f b=0
 pos:∀b,0≤cu f b
def KB(f:fZ):Prop:=∀b d,f.nodes b=some d→kJ f.cur.length d
def RB(f:fZ):Prop:=∀r∈f.roots,0≤r.2∧r.2.toNat<f.cur.length
structure IC(f:fZ):Prop where
 n8:8≤f.cur.length
 n512:f.cur.length≤512
 len:f.com.length=f.cur.length
 D0:∀x,x<f.cur.length→df f x=0
 dom:Dom f
 two:∀b,b<2→f.nodes b=none
 rb:RB f
 kb:KB f
 ht:∃ht,Hts f.nodes ht
theorem kJ.kid{d:Nd}(h:kJ n d)(hc:c∈kids d):c<n:=by
 rcases h with h | ⟨h,_,h'⟩
 ·simp[kids,h]at hc
 ·simp only[kids,h,if_true,List.mem_map]at hc
  obtain⟨e,he,rfl⟩:=hc;exact(h' e he).2
theorem wI{f:fZ}(h:f.cur.length≤b):cu f b=0:=by
 simp[cu,gD,h]
theorem aAM{nodes:Nat→Option Nd}{d:Nd}(hd:nodes b=some d)(hb:b<n):(kids d).count c≤deg nodes n c:=by
 have:=oI (g:=fun x=>(bZ (nodes x)).count c) hb
 have e:(bZ (nodes b)).count c=(kids d).count c:=by rw[hd];rfl
 rw[←e];exact this
theorem aJA{nodes:Nat→Option Nd}{d d':Nd}(hd:nodes a=some d)(ha:a<n)(fy:nodes b=some d')(hb:b<n)(pz:a≠b):(kids d).count c+(kids d').count c≤deg nodes n c:=by
 have:=aEX (g:=fun x=>(bZ (nodes x)).count c) ha hb pz
 have e:(bZ (nodes a)).count c=(kids d).count c:=by rw[hd];rfl
 have e':(bZ (nodes b)).count c=(kids d').count c:=by rw[fy];rfl
 rw[←e,←e'];exact this
theorem IC.lt{f:fZ}(h:IC f){d:Nd}(hd:f.nodes b=some d):b<f.cur.length:=by
 refine Nat.lt_of_not_le fun hl=>?_;have:=(h.dom.dead b).2 (wI hl);rw[hd]at this;cases this
theorem IC.ge2{f:fZ}(h:IC f){d:Nd}(hd:f.nodes b=some d):2≤b:=by
 refine Nat.le_of_not_lt fun hl=>?_;have:=h.two b hl;rw[hd]at this;cases this
theorem IC.names{f:fZ}(h:IC f)(hx:x<f.cur.length):cu f x=((rc f.roots x+deg f.nodes f.cur.length x:Nat):Int):=by
 have:=h.D0 x hx;unfold df at this;omega
theorem IC.live{f:fZ}(h:IC f)(hx:0<cu f x):∃d,f.nodes x=some d:=by
 cases e:f.nodes x with
 | none=>have:=(h.dom.dead x).1 e;omega
 | some d=>exact⟨d,rfl⟩
theorem IC.cu_pos{f:fZ}(h:IC f){d:Nd}(hd:f.nodes b=some d):0<cu f b:=by
 have h1:=h.dom.pos b;have h2:cu f b≠0:=fun e=>by have:=(h.dom.dead b).2 e;rw[hd]at this;cases this
 omega
theorem IC.kid_lt{f:fZ}(h:IC f){d:Nd}(hd:f.nodes b=some d)(hc:c∈kids d):c<f.cur.length:=(h.kb b d hd).kid hc
theorem IC.kid_live{f:fZ}(h:IC f){d:Nd}(hd:f.nodes b=some d)(hc:c∈kids d):∃d',f.nodes c=some d':=by
 have hn:=h.kid_lt hd hc;refine h.live ?_;rw[h.names hn];have h1:0 <(kids d).count c:=List.count_pos_iff.2 hc;have:=aAM (c:=c) hd (h.lt hd);omega
theorem IC.root_live{f:fZ}(h:IC f)(hr:r∈f.roots):∃d,f.nodes r.2.toNat=some d:=by
 refine h.live ?_;rw[h.names (h.rb r hr).2];have:0<rc f.roots r.2.toNat:=List.count_pos_iff.2 (List.mem_map_of_mem hr);omega
theorem IC.only{f:fZ}(h:IC f){d:Nd}(h1:cu f c=1)(hd:f.nodes b=some d)(hc:c∈kids d):
  rc f.roots c=0∧(kids d).count c=1∧∀b' d',f.nodes b'=some d'→c∈kids d'→b'=b:=by
 have hn:=h.names (h.kid_lt hd hc);have k1:0 <(kids d).count c:=List.count_pos_iff.2 hc;have k2:=aAM (c:=c) hd (h.lt hd);refine⟨by omega,by omega,fun b' d' fy bj=>?_⟩;by_cases e:b'=b
 ·exact e
 ·have k3:=aJA (c:=c) fy (h.lt fy) hd (h.lt hd) e
  have k4:0 <(kids d').count c:=List.count_pos_iff.2 bj;omega
theorem IC.onlyRoot{f:fZ}(h:IC f)(hr:r∈f.roots)(h1:cu f r.2.toNat=1):rc f.roots r.2.toNat=1∧∀b d,f.nodes b=some d→r.2.toNat∉kids d:=by
 have hn:=h.names (h.rb r hr).2;have k1:0<rc f.roots r.2.toNat:=List.count_pos_iff.2 (List.mem_map_of_mem hr);refine⟨by omega,fun b d hd hc=>?_⟩;have k2:=aAM (c:=r.2.toNat) hd (h.lt hd);have k3:0 <(kids d).count r.2.toNat:=List.count_pos_iff.2 hc;omega
theorem IC.not_self{f:fZ}(h:IC f){d:Nd}(hd:f.nodes b=some d):b∉kids d:=by
 obtain⟨ht,hh⟩:=h.ht;intro hb;rcases hh b d hd with⟨h1,_⟩ | ⟨_,h2⟩
 ·simp[kids,h1]at hb
 ·have:=h2 b hb;omega
theorem IC.dead_kid{f:fZ}(h:IC f){d:Nd}(hq:f.nodes q=none)(hd:f.nodes b=some d):q∉kids d:=fun hc=>by
 obtain⟨d',h'⟩:=h.kid_live hd hc;rw[hq]at h';cases h'
theorem HtN.congr{ur:Nat→Nat}{d:Nd}(h:HtN ht v d)(hk:∀c∈kids d,ur c=ht c):HtN ur v d:=by
 rcases h with h | ⟨h1,h2⟩
 ·exact .inl h
 ·exact .inr ⟨h1,fun c hc=>by rw[hk c hc];exact h2 c hc⟩
theorem Hts.dead{nodes:Nat→Option Nd}(h:Hts nodes ht){d:Nd}(hq:∀b d,nodes b=some d→q∉kids d)(hd:HtN ht v d)(hs:q∉kids d):Hts (upd nodes q (some d)) (upd ht q v):=by
 intro b d' hb;by_cases e:b=q
 ·subst e
  rw[aD]at hb ⊢;cases hb;exact hd.congr fun c hc=>aC _ _ (fun e=>hs (e▸hc))
 ·rw[aC _ _ e]at hb ⊢
  exact(h b d' hb).congr fun c hc=>aC _ _ (fun e=>hq b d' hb (e▸hc))
theorem Hts.same{nodes:Nat→Option Nd}(h:Hts nodes ht){d:Nd}(hd:HtN ht (ht b) d):Hts (upd nodes b (some d)) ht:=by
 intro x d' hx;by_cases e:x=b
 ·subst e;rw[aD]at hx;cases hx;exact hd
 ·rw[aC _ _ e]at hx;exact h x d' hx
theorem Hts.gone{nodes:Nat→Option Nd}(h:Hts nodes ht)(b:Nat):Hts (upd nodes b none) ht:=by
 intro x d' hx;by_cases e:x=b
 ·subst e;rw[aD]at hx;cases hx
 ·rw[aC _ _ e]at hx;exact h x d' hx
theorem Dom.setN{f:fZ}(h:Dom f){d d':Nd}(hd:f.nodes b=some d):Dom (setN f b d'):=by
 refine⟨fun x=>?_,h.pos⟩;show upd f.nodes b (some d') x=none↔cu f x=0
 by_cases e:x=b
 ·subst e;rw[aD,←h.dead x,hd];simp
 ·rw[aC _ _ e];exact h.dead x
theorem Dom.takeAt{f:fZ}(h:Dom f){d:Nd}(hq:q<f.cur.length):Dom (takeAt f q d):=by
 have hg:∀x,cu (Fo.takeAt f q d) x=if q=x then 1 else cu f x:=fun x=>fC f q x 1 hq;refine⟨fun x=>?_,fun x=>?_⟩
 ·rw[hg]
  show upd f.nodes q (some d) x=none↔_
  by_cases e:x=q
  ·subst e;rw[aD];simp
  ·rw[aC _ _ e,if_neg (Ne.symm e)];exact h.dead x
 ·rw[hg];have:=h.pos x;split<;>omega
theorem Dom.freeB{f:fZ}(h:Dom f)(hb:b<f.cur.length):Dom (freeB f b):=by
 have hg:∀x,cu (Fo.freeB f b) x=if b=x then 0 else cu f x:=fun x=>fC f b x 0 hb;refine⟨fun x=>?_,fun x=>?_⟩
 ·rw[hg]
  show upd f.nodes b none x=none↔_
  by_cases e:x=b
  ·subst e;rw[aD];simp
  ·rw[aC _ _ e,if_neg (Ne.symm e)];exact h.dead x
 ·rw[hg];have:=h.pos x;split<;>omega
theorem rD{f:fZ}{d:Nd}(hb:b<f.cur.length)(hd:f.nodes b=some d)(hk:∀c∈kids d,c<f.cur.length)(h1:cu f b≠1)(x:Nat):
  cu (letGo f b) x=(if b=x then cu f b-1 else cu f x)+((kids d).count x:Int):=by
 unfold letGo;rw[if_neg h1,hd];simp only[bZ,cu];rw[rW _ _ (fun k qp=>by simpa using hk k qp)];have hg:=fC f b x (cu f b-1) hb;simp only[cu]at hg;rw[hg]
theorem Dom.letGo{f:fZ}(h:Dom f){d:Nd}(hb:b<f.cur.length)(hd:f.nodes b=some d)(hk:∀c∈kids d,c<f.cur.length∧f.nodes c≠none):Dom (letGo f b):=by
 by_cases hc:cu f b=1
 ·have e:Fo.letGo f b=Fo.freeB f b:=by unfold Fo.letGo;rw[if_pos hc]
  rw[e];exact h.freeB hb
 ·have hg:=rD hb hd (fun c hc=>(hk c hc).1) hc
  have e:(Fo.letGo f b).nodes=f.nodes:=by unfold Fo.letGo;rw[if_neg hc]
  have p0:=h.pos b;have p1:cu f b≠0:=fun e=>by have:=(h.dead b).2 e;rw[hd]at this;cases this
  refine⟨fun x=>?_,fun x=>?_⟩
  ·rw[e,hg]
   by_cases eb:b=x
   ·subst eb;rw[if_pos rfl,hd];constructor
    ·intro q;cases q
    ·intro q;omega
   ·rw[if_neg eb]
    have px:=h.pos x;constructor
    ·intro q
     have:(kids d).count x=0:=List.count_eq_zero.2 fun hm=>(hk x hm).2 q
     have:=(h.dead x).1 q
     omega
    ·intro q;exact(h.dead x).2 (by omega)
  ·rw[hg];have px:=h.pos x;split<;>omega
theorem aE{f:fZ}{d:Nd}(h:f.nodes b=some d):look f b=d:=by simp[look,h]
theorem iE(f:fZ)(b:Nat):(letGo f b).cur.length=f.cur.length:=by
 unfold letGo;split
 ·simp[freeB]
 ·simp[mK]
theorem bE(f:fZ)(L:Loc)(q:Nat):(setL f L q).cur=f.cur:=by cases L<;>rfl
theorem cQ(f:fZ)(b:Nat):(letGo f b).nodes=if cu f b=1 then upd f.nodes b none else f.nodes:=by
 unfold letGo;split<;>rfl
theorem lK(f:fZ)(b:Nat):(letGo f b).com=f.com:=by unfold letGo;split<;>rfl
theorem xZ(f:fZ)(L:Loc)(q:Nat):(setL f L q).com=f.com:=by cases L<;>rfl
theorem dV(f:fZ)(b:Nat):(letGo f b).roots=f.roots:=by unfold letGo;split<;>rfl
theorem KB.letGo{f:fZ}(h:KB f)(b:Nat):KB (letGo f b):=by
 intro x d hx;rw[iE];rw[cQ]at hx;split at hx
 ·by_cases e:x=b
  ·subst e;rw[aD]at hx;cases hx
  ·rw[aC _ _ e]at hx;exact h x d hx
 ·exact h x d hx
theorem Hts.letGo{f:fZ}(h:Hts f.nodes ht)(b:Nat):Hts (letGo f b).nodes ht:=by
 rw[cQ];split
 ·exact h.gone b
 ·exact h
theorem KB.upd{nodes:Nat→Option Nd}{d:Nd}(h:∀x e,nodes x=some e→kJ n e)(hd:kJ n d):∀x e,upd nodes b (some d) x=some e→kJ n e:=by
 intro x e hx;by_cases q:x=b
 ·subst q;rw[aD]at hx;cases hx;exact hd
 ·rw[aC _ _ q]at hx;exact h x e hx
theorem qT{l:List α}{v x:α}(h:x∈l.set i v):x=v∨x∈l:=by
 rcases List.mem_or_eq_of_mem_set h with q | q
 ·exact .inr q
 ·exact .inl q
theorem kJ.setE{d:Nd}(h:kJ n d)(h2:d.1=2)(i q:Nat)(hq:q<n):kJ n (setE d i q):=by
 rcases h with h | ⟨_,h3,h4⟩
 ·omega
 ·refine .inr ⟨h2,?_,?_⟩
  ·simp[Fo.setE,h3]
  ·intro e he
   rcases qT he with rfl | he
   ·exact⟨by simp,by simpa [ch] using hq⟩
   ·exact h4 e he
theorem uF{d:Nd}(h2:d.1=2)(h:c∈kids (setE d i q)):c=q∨c∈kids d:=by
 simp only[kids,setE,h2,if_true]at h ⊢;rw[aFW]at h;exact qT h
theorem gM{es:List E3}(hi:i<es.length):ch (es.getD i e0)∈kids (2,es):=by
 simp only[kids,if_true,List.mem_map];refine⟨es.getD i e0,?_,rfl⟩;rw[gD,gE hi];exact List.getElem_mem hi
def shadowAt(f:fZ)(L:Loc)(q:Nat):fZ:=letGo (setL (takeAt f q (look f (bI f L))) L q) (bI f L)
theorem fG(f:fZ)(q:Nat)(d:Nd):(takeAt f q d).nodes=upd f.nodes q (some d):=rfl
theorem dT{f:fZ}(d:Nd)(hq:q<f.cur.length)(x:Nat):cu (takeAt f q d) x=if q=x then 1 else cu f x:=fC f q x 1 hq
def cpN(f:fZ)(L:Loc)(q:Nat)(d:Nd):Nat→Option Nd:=match L with
 | .inl _=>upd f.nodes q (some d)
 | .inr (p,i)=>upd (upd f.nodes q (some d)) p (some (setE (look f p) i q))
def shN(f:fZ)(L:Loc)(q b:Nat)(d:Nd):Nat→Option Nd:=if cu f b=1 then upd (cpN f L q d) b none else cpN f L q d
theorem IC.shadow{f:fZ}(h:IC f){L:Loc}(hL:dR f L)(hb:bI f L=b){d:Nd}(hd:f.nodes b=some d)(gp:2≤q)(ml:q<f.cur.length)(hc:cu f q=0):
  IC (shadowAt f L q)∧(shadowAt f L q).nodes=shN f L q b d∧(shadowAt f L q).cur.length=f.cur.length∧(shadowAt f L q).com=f.com∧cu (shadowAt f L q) q=1:=by
 have de:f.nodes q=none:=(h.dom.dead q).2 hc;have mi:b≠q:=fun e=>by rw[e,de]at hd;cases hd
 have so:=h.lt hd;have tq:∀c∈kids d,c<f.cur.length:=fun c=>h.kid_lt hd;have M6:q∉kids d:=h.dead_kid de hd;obtain⟨ht,Qw⟩:=h.ht;have S1:Hts (takeAt f q d).nodes (upd ht q (ht b)):=Qw.dead (fun y e hy=>h.dead_kid de hy) (Qw b d hd) M6;have td:∀x e,(takeAt f q d).nodes x=some e→kJ f.cur.length e:=KB.upd h.kb (h.kb b d hd);have Gf:Dom (takeAt f q d):=h.dom.takeAt ml;have en:(takeAt f q d).cur.length=f.cur.length:=by simp[takeAt]
 have ao:(takeAt f q d).nodes b=some d:=by rw[fG,aC _ _ mi];exact hd
 have key:dR (takeAt f q d) L∧bI (takeAt f q d) L=b∧Dom (setL (takeAt f q d) L q)∧KB (setL (takeAt f q d) L q)∧Hts (setL (takeAt f q d) L q).nodes (upd ht q (ht b))∧RB (setL (takeAt f q d) L q)∧(setL (takeAt f q d) L q).nodes b=some d∧(∀c,(takeAt f q d).nodes c≠none→(setL (takeAt f q d) L q).nodes c≠none)∧(∀c,c<2→(setL (takeAt f q d) L q).nodes c=none)∧(setL (takeAt f q d) L q).nodes=cpN f L q d:=by
  cases L with
  | inl t=>
   refine⟨hL,hb,⟨Gf.dead,Gf.pos⟩,fun x e hx=>by rw[bE,en];exact td x e hx,S1,?_,ao,fun c hc=>hc,fun c hc=>?_,rfl⟩
   ·intro r hr
    rw[bE,en];rcases qT hr with rfl | hr
    ·exact⟨by simp,by simpa using ml⟩
    ·exact h.rb r hr
   ·show upd f.nodes q (some d) c=none
    rw[aC _ _ (by omega)];exact h.two c hc
  | inr bi=>
   obtain⟨p,i⟩:=bi;obtain⟨hp,es,he,hi⟩:=hL;have Rc:p≠q:=fun e=>by rw[e,de]at he;cases he
   have G9:(takeAt f q d).nodes p=some (2,es):=by rw[fG,aC _ _ Rc];exact he
   have hl:look (takeAt f q d) p=(2,es):=aE G9;have As:look f p=(2,es):=aE he;have qa:b∈kids (2,es):=by
    rw[←hb];simp only[bI,As];exact gM hi
   have qr:p≠b:=fun e=>h.not_self he (e▸qa);refine⟨⟨by rw[en];exact hp,es,G9,hi⟩,?_,?_,?_,?_,?_,?_,?_,?_,?_⟩
   ·simp only[bI,hl];rw[←hb];simp only[bI,As]
   ·simp only[setL];exact Gf.setN G9
   ·intro x e hx
    simp only[setL,hl]at hx;have:(setL (takeAt f q d) (.ent p i) q).cur.length=f.cur.length:=by rw[bE,en]
    rw[this];exact KB.upd td ((h.kb p _ he).setE rfl i q ml) x e hx
   ·simp only[setL,hl]
    refine S1.same ?_;rw[aC _ _ Rc];rcases Qw p _ he with⟨q1,_⟩ | ⟨_,q2⟩
    ·simp at q1
    ·refine .inr ⟨rfl,fun c hc=>?_⟩
     rcases uF rfl hc with rfl | hc
     ·rw[aD];exact q2 b qa
     ·rw[aC _ _ (fun(e:c=q)=>h.dead_kid de he (e▸hc))];exact q2 c hc
   ·intro r hr
    rw[bE,en];exact h.rb r hr
   ·simp only[setL,setN];rw[aC _ _ (Ne.symm qr)];exact ao
   ·intro c hc
    simp only[setL,setN];by_cases e:c=p
    ·subst e;rw[aD];simp
    ·rw[aC _ _ e];exact hc
   ·intro c hc
    simp only[setL,setN];have:=h.ge2 he;rw[aC _ _ (by omega),fG,aC _ _ (by omega)];exact h.two c hc
   ·simp only[setL,setN,hl,cpN,As,fG]
 obtain⟨k1,k2,k3,k4,k5,k6,k7,k8,k9,k10⟩:=key;have hs:shadowAt f L q=letGo (setL (takeAt f q d) L q) b:=by unfold shadowAt;rw[hb,aE hd]
 have ah:(shadowAt f L q).cur.length=f.cur.length:=by rw[hs,iE,bE,en]
 have pp:cu (setL (takeAt f q d) L q) b=cu f b:=by
  unfold cu;rw[bE];have:=dT d ml b;unfold cu at this;rw[this,if_neg (Ne.symm mi)]
 have AF:cu (setL (takeAt f q d) L q) q=1:=by
  unfold cu;rw[bE];have:=dT d ml q;unfold cu at this;rw[this,if_pos rfl]
 have RW:(shadowAt f L q).nodes=shN f L q b d:=by
  rw[hs,cQ,pp,k10];rfl
 have Jq:∀c∈kids d,(setL (takeAt f q d) L q).nodes c≠none:=fun c hc=>by
  refine k8 c ?_;obtain⟨d',fy⟩:=h.kid_live hd hc;rw[fG,aC _ _ (fun(e:c=q)=>M6 (e▸hc)),fy];simp
 refine⟨⟨by rw[ah];exact h.n8,by rw[ah];exact h.n512,?_,?_,?_,?_,?_,?_,⟨_,by rw[hs];exact k5.letGo b⟩⟩,RW,ah,?_,?_⟩
 ·rw[ah,hs,lK,xZ];exact h.len
 ·intro x hx
  rw[ah]at hx;rw[hs,yD (by rw[bE,en];exact so) k7 (fun c hc=>by rw[bE,en];exact tq c hc),wK k1 k2,lM ml de hc,h.D0 x hx];omega
 ·rw[hs];exact k3.letGo (by rw[bE,en];exact so) k7 (fun c hc=>⟨by rw[bE,en];exact tq c hc,Jq c hc⟩)
 ·intro x hx
  rw[hs,cQ];split
  ·have:=h.ge2 hd
   rw[aC _ _ (by omega)];exact k9 x hx
  ·exact k9 x hx
 ·intro r hr
  rw[ah];rw[hs,dV]at hr;have:=k6 r hr;rw[bE,en]at this;exact this
 ·rw[hs];exact k4.letGo b
 ·rw[hs,lK,xZ];rfl
 ·rw[hs]
  by_cases e:cu (setL (takeAt f q d) L q) b=1
  ·unfold letGo;rw[if_pos e]
   show(List.set _ b 0).getD q 0=1
   rw[fC _ _ _ _ (by rw[bE,en];exact so),if_neg mi];exact AF
  ·rw[rD (by rw[bE,en];exact so) k7 (fun c hc=>by rw[bE,en];exact tq c hc) e,if_neg mi,AF,List.count_eq_zero.2 M6];rfl
structure IP(f:fZ)(ht:Nat→Nat):Prop where
 n8:8≤f.cur.length
 n512:f.cur.length≤512
 len:f.com.length=f.cur.length
 dom:Dom f
 two:∀b,b<2→f.nodes b=none
 rb:RB f
 kb:KB f
 ht:Hts f.nodes ht
theorem IC.ip{f:fZ}(h:IC f):∃ht,IP f ht:=by
 obtain⟨ht,hh⟩:=h.ht;exact⟨ht,h.n8,h.n512,h.len,h.dom,h.two,h.rb,h.kb,hh⟩
theorem IP.ic{f:fZ}(h:IP f ht)(hD:∀x,x<f.cur.length→df f x=0):IC f:=
 ⟨h.n8,h.n512,h.len,hD,h.dom,h.two,h.rb,h.kb,ht,h.ht⟩
theorem IP.setN{f:fZ}(h:IP f ht){d d':Nd}(hd:f.nodes b=some d)(hk:kJ f.cur.length d')(hh:HtN ht (ht b) d'):IP (setN f b d') ht:=by
 refine⟨h.n8,h.n512,h.len,h.dom.setN hd,fun x hx=>?_,h.rb,KB.upd h.kb hk,h.ht.same hh⟩;have:x≠b:=fun e=>by have:=h.two x hx;rw[e,hd]at this;cases this
 show upd f.nodes b (some d') x=none
 rw[aC _ _ this];exact h.two x hx
theorem IP.takeAt{f:fZ}(h:IP f ht){d:Nd}(gp:2≤q)(hq:q<f.cur.length)(hk:kJ f.cur.length d)(hh:HtN ht v d)(hs:q∉kids d)(hn:∀y e,f.nodes y=some e→q∉kids e):IP (takeAt f q d) (upd ht q v):=by
 have hl:(Fo.takeAt f q d).cur.length=f.cur.length:=by simp[Fo.takeAt]
 refine⟨by rw[hl];exact h.n8,by rw[hl];exact h.n512,by rw[hl];exact h.len,h.dom.takeAt hq,fun x hx=>?_,?_,?_,h.ht.dead hn hh hs⟩
 ·show upd f.nodes q (some d) x=none
  rw[aC _ _ (by omega)];exact h.two x hx
 ·intro r hr;rw[hl];exact h.rb r hr
 ·intro x e hx;rw[hl];exact KB.upd h.kb hk x e hx
theorem IP.setRoot{f:fZ}(h:IP f ht)(t:Nat)(hq:q<f.cur.length):IP (setL f (.root t) q) ht:=by
 refine⟨h.n8,h.n512,h.len,⟨h.dom.dead,h.dom.pos⟩,h.two,?_,h.kb,h.ht⟩;intro r hr;rcases qT hr with rfl | hr
 ·exact⟨by simp,by rw[bE];simpa using hq⟩
 ·exact h.rb r hr
theorem IP.freeB{f:fZ}(h:IP f ht)(hb:b<f.cur.length):IP (freeB f b) ht:=by
 have hl:(Fo.freeB f b).cur.length=f.cur.length:=by simp[Fo.freeB]
 refine⟨by rw[hl];exact h.n8,by rw[hl];exact h.n512,by rw[hl];exact h.len,h.dom.freeB hb,fun x hx=>?_,?_,?_,h.ht.gone b⟩
 ·show upd f.nodes b none x=none
  by_cases e:x=b
  ·rw[e,aD]
  ·rw[aC _ _ e];exact h.two x hx
 ·intro r hr;rw[hl];exact h.rb r hr
 ·intro x e hx
  rw[hl];by_cases q:x=b
  ·subst q;have bq:upd f.nodes x none x=some e:=hx;rw[aD]at bq;cases bq
  ·have bq:upd f.nodes b none x=some e:=hx;rw[aC _ _ q]at bq;exact h.kb x e bq
theorem IP.letGo{f:fZ}(h:IP f ht){d:Nd}(hb:b<f.cur.length)(hd:f.nodes b=some d)(hk:∀c∈kids d,c<f.cur.length∧f.nodes c≠none):IP (letGo f b) ht:=by
 have hl:=iE f b;refine⟨by rw[hl];exact h.n8,by rw[hl];exact h.n512,by rw[hl,lK];exact h.len,h.dom.letGo hb hd hk,fun x hx=>?_,?_,KB.letGo h.kb b,h.ht.letGo b⟩
 ·rw[cQ];split
  ·by_cases e:x=b
   ·rw[e,aD]
   ·rw[aC _ _ e];exact h.two x hx
  ·exact h.two x hx
 ·intro r hr;rw[hl];rw[dV]at hr;exact h.rb r hr
def insE(l:List α)(i:Nat)(e:α):List α:=l.take i++e :: l.drop i
def delE(l:List α)(i:Nat):List α:=l.take i++l.drop (i+1)
theorem gK(es:List E3):kids (2,es)=es.map ch:=by simp[kids]
theorem aGX(k:Int)(es:List E3):kids (k,es)=if k=2 then es.map ch else []:=rfl
theorem nO(k:Int)(a b:List E3):kids (k,a++b)=kids (k,a)++kids (k,b):=by
 simp only[aGX];split<;>simp
theorem sA(k:Int)(a:List E3)(m:Nat)(x:Nat):((kids (k,a)).count x:Nat)=(kids (k,a.take m)).count x+(kids (k,a.drop m)).count x:=by
 rw[←List.count_append,←nO,List.take_append_drop]
theorem aAL(l:List Nat)(i q x:Nat):(insE l i q).count x=l.count x+one q x:=by
 unfold insE;rw[List.count_append,List.count_cons];have:l.count x=(l.take i).count x+(l.drop i).count x:=by rw[←List.count_append,List.take_append_drop]
 simp only[beq_iff_eq,one];omega
theorem aDW(es:List E3)(i:Nat)(e:E3)(x:Nat):(kids (2,insE es i e)).count x=(kids (2,es)).count x+one (ch e) x:=by
 rw[gK,gK,←aAL _ i];simp[insE,List.map_take,List.map_drop]
theorem fP(l:List Nat)(i x:Nat)(h:i<l.length):(delE l i).count x+one (l.getD i 0) x=l.count x:=by
 unfold delE;rw[List.count_append];have h1:l.count x=(l.take i).count x+(l.drop i).count x:=by rw[←List.count_append,List.take_append_drop]
 have h2:l.drop i=l.getD i 0 :: l.drop (i+1):=by
  rw[gD,gE h];exact List.drop_eq_getElem_cons h
 rw[h2,List.count_cons]at h1;simp only[beq_iff_eq,one]at *;omega
theorem vD(es:List E3)(i x:Nat)(h:i<es.length):(kids (2,delE es i)).count x+one (ch (es.getD i e0)) x=(kids (2,es)).count x:=by
 have:=fP (es.map ch) i x (by simpa using h)
 rw[gJ _ _ h]at this;rw[gK,gK,←this];simp[delE,List.map_take,List.map_drop]
theorem zD{l:List α}{e x:α}(h:x∈insE l i e):x=e∨x∈l:=by
 simp only[insE,List.mem_append,List.mem_cons]at h;rcases h with h | h | h
 ·exact .inr (List.mem_of_mem_take h)
 ·exact .inl h
 ·exact .inr (List.mem_of_mem_drop h)
theorem nY{l:List α}{x:α}(h:x∈delE l i):x∈l:=by
 simp only[delE,List.mem_append]at h;rcases h with h | h
 ·exact List.mem_of_mem_take h
 ·exact List.mem_of_mem_drop h
theorem kJ.sub{es es':List E3}(h:kJ n (k,es))(hs:∀e∈es',e∈es)(h0:k=2→es'≠[]):kJ n (k,es'):=by
 rcases h with h | ⟨h1,h2,h3⟩
 ·exact .inl h
 ·exact .inr ⟨h1,h0 h1,fun e he=>h3 e (hs e he)⟩
theorem cP{es:List E3}(h:c∈kids (k,es)):k=2∧∃e∈es,ch e=c:=by
 simp only[aGX]at h;split at h
 ·rename_i hk;exact⟨hk,by simpa using h⟩
 ·simp at h
theorem aV{es:List E3}:c∈kids (2,es)↔∃e∈es,ch e=c:=by simp[gK]
theorem HtN.sub{es es':List E3}(h:HtN ht v (k,es))(hs:∀e∈es',∃e'∈es,ch e=ch e'):HtN ht v (k,es'):=by
 rcases h with h | ⟨h1,h2⟩
 ·exact .inl h
 ·refine .inr ⟨h1,fun c hc=>?_⟩
  obtain⟨hk,e,he,rfl⟩:=cP hc;obtain⟨e',E4,q⟩:=hs e he;rw[q];refine h2 _ ?_;simp only at h1;subst h1;exact aV.2 ⟨e',E4,rfl⟩
theorem IC.keys{f:fZ}(h:IC f){es es':List E3}(hd:f.nodes b=some (k,es))(hk:kids (k,es')=kids (k,es))(hp:k=2→∀e∈es',0≤e.2.2):IC (setN f b (k,es')):=by
 obtain⟨ht,FB⟩:=h.ip;have hn:=h.kb b _ hd;refine(FB.setN hd ?_ ?_).ic ?_
 ·rcases hn with hn | ⟨h1,h2,h3⟩
  ·exact .inl hn
  ·simp only at h1;subst h1
   refine .inr ⟨rfl,?_,fun e he=>⟨hp rfl e he,?_⟩⟩
   ·intro e;simp only at e h2;subst e;simp[gK]at hk;exact h2 (by simpa using hk)
   ·exact(h.kb b _ hd).kid (by rw[←hk];exact aV.2 ⟨e,he,rfl⟩)
 ·rcases FB.ht b _ hd with q | ⟨q1,q2⟩
  ·exact .inl q
  ·exact .inr ⟨q1,fun c hc=>q2 c (hk▸hc)⟩
 ·intro x hx
  rw[gA (h.lt hd) hd,hk,h.D0 x hx];omega
theorem eL{es:List E3}(h:HtN ht v (2,es))(hc:c∈kids (2,es)):ht c+1=v:=by
 rcases h with⟨q,_⟩ | ⟨_,q⟩
 ·simp at q
 ·exact q c hc
theorem gF{es:List E3}:(∀e∈es.take m,∃e'∈es,ch e=ch e')∧(∀e∈es.drop m,∃e'∈es,ch e=ch e'):=
 ⟨fun e he=>⟨e,List.mem_of_mem_take he,rfl⟩,fun e he=>⟨e,List.mem_of_mem_drop he,rfl⟩⟩
theorem oK{es:List E3}(h:m<es.length)(hm:0<m):es.take m≠[]:=fun e=>by
 have:=congrArg List.length e;rw[List.length_take,List.length_nil]at this;omega
theorem nB{es:List E3}(h:m<es.length):es.drop m≠[]:=fun e=>by
 have:=congrArg List.length e;simp at this;omega
theorem kS{es es':List E3}(hs:∀e∈es',e∈es)(h:c∈kids (k,es')):c∈kids (k,es):=by
 obtain⟨rfl,e,he,rfl⟩:=cP h;exact aV.2 ⟨e,hs e he,rfl⟩
def splitF(f:fZ)(p:Nat)(pes:List E3)(at' c:Nat)(k:Int)(ces:List E3)(m q:Nat)(key:ByteArray):fZ:=
 setN (takeAt (setN f c (k,ces.take m)) q (k,ces.drop m)) p (2,insE pes (at'+1) (key,.empty,(q:Int)))
theorem IC.split{f:fZ}(h:IC f){at':Nat}{pes ces:List E3}(key:ByteArray)(hp:f.nodes p=some (2,pes))(ha:at'<pes.length)(hc:c=ch (pes.getD at' e0))(hd:f.nodes c=some (k,ces))(hm:0<m)(gy:m<ces.length)(gp:2≤q)(ml:q<f.cur.length)(hq:cu f q=0):
  IC (splitF f p pes at' c k ces m q key)∧(splitF f p pes at' c k ces m q key).nodes=upd (upd (upd f.nodes c (some (k,ces.take m))) q (some (k,ces.drop m))) p (some (2,insE pes (at'+1) (key,.empty,(q:Int)))):=by
 refine⟨?_,rfl⟩;obtain⟨ht,hI⟩:=h.ip;have de:f.nodes q=none:=(h.dom.dead q).2 hq;have fh:c∈kids (2,pes):=hc▸gM ha;have wh:p≠c:=fun e=>h.not_self hp (e▸fh);have GG:q≠c:=fun e=>by rw[←e,de]at hd;cases hd
 have T3:q≠p:=fun e=>by rw[←e,de]at hp;cases hp
 have Gv:=hI.ht c _ hd;have WR:=eL (hI.ht p _ hp) fh;have I1:IP (setN f c (k,ces.take m)) ht:=hI.setN hd ((h.kb c _ hd).sub (fun e he=>List.mem_of_mem_take he) fun _=>oK gy hm) (Gv.sub gF.1);have I2:=I1.takeAt (q:=q) (v:=ht c) (d:=(k,ces.drop m)) gp ml ((h.kb c _ hd).sub (fun e he=>List.mem_of_mem_drop he) fun _=>nB gy) (Gv.sub gF.2)
  (fun hk=>h.dead_kid de hd (kS (fun e he=>List.mem_of_mem_drop he) hk))
  (fun y e hy hk=>by
   by_cases ey:y=c
   ·subst ey
    have pn:upd f.nodes y (some (k,ces.take m)) y=some e:=hy;rw[aD]at pn;cases pn;exact h.dead_kid de hd (kS (fun e he=>List.mem_of_mem_take he) hk)
   ·have pn:upd f.nodes c (some (k,ces.take m)) y=some e:=hy
    rw[aC _ _ ey]at pn;exact h.dead_kid de pn hk)
 have Bp:(takeAt (setN f c (k,ces.take m)) q (k,ces.drop m)).nodes p=some (2,pes):=by
  show upd (upd f.nodes c (some (k,ces.take m))) q (some (k,ces.drop m)) p=_
  rw[aC _ _ (Ne.symm T3),aC _ _ wh];exact hp
 have Cz:(takeAt (setN f c (k,ces.take m)) q (k,ces.drop m)).cur.length=f.cur.length:=by simp[takeAt,setN]
 have I3:=I2.setN (d':=(2,insE pes (at'+1) (key,.empty,(q:Int)))) Bp ?_ ?_
 ·refine I3.ic fun x hx=>?_
  have hx:x<f.cur.length:=by have:x <(takeAt (setN f c (k,ces.take m)) q (k,ces.drop m)).cur.length:=hx;rw[Cz]at this;exact this
  have e1:=gA (d':=(k,ces.take m)) (h.lt hd) hd x;have e2:=lM (f:=setN f c (k,ces.take m)) (q:=q) (d:=(k,ces.drop m)) ml (by show upd f.nodes c _ q=none;rw[aC _ _ GG];exact de) hq x;have e3:=gA (d':=(2,insE pes (at'+1) (key,.empty,(q:Int)))) (by rw[Cz];exact h.lt hp) Bp x;have e4:=sA k ces m x;have e5:=aDW pes (at'+1) (key,.empty,(q:Int)) x;have e6:ch (key,.empty,(q:Int))=q:=by simp[ch]
  rw[e6]at e5;have e0:=h.D0 x hx;show df (setN _ p _) x=0
  rw[e3,e2,e1];omega
 ·rw[Cz]
  rcases h.kb p _ hp with q' | ⟨_,q1,q2⟩
  ·simp at q'
  ·refine .inr ⟨rfl,by simp[insE],fun e he=>?_⟩
   rcases zD he with rfl | he
   ·exact⟨by simp,by simpa [ch] using ml⟩
   ·exact q2 e he
 ·rw[aC _ _ (Ne.symm T3)]
  refine .inr ⟨rfl,fun x hx=>?_⟩;obtain⟨e,he,rfl⟩:=aV.1 hx;rcases zD he with rfl | he
  ·simp only[ch,Int.toNat_natCast];rw[aD];exact WR
  ·have hk:ch e∈kids (2,pes):=aV.2 ⟨e,he,rfl⟩
   rw[aC _ _ (fun(z:ch e=q)=>h.dead_kid de hp (z▸hk))];exact eL (hI.ht p _ hp) hk
def growF(f:fZ)(t r:Nat)(k:Int)(es:List E3)(m q top:Nat)(k0 k1:ByteArray):fZ:=
 setL (takeAt (takeAt (setN f r (k,es.take m)) q (k,es.drop m)) top (2,[(k0,.empty,(r:Int)),(k1,.empty,(q:Int))])) (.root t) top
theorem IC.grow{f:fZ}(h:IC f){r top:Nat}{es:List E3}(k0 k1:ByteArray)(fw:t<f.roots.length)(hr:(f.roots.getD t (0,0)).2.toNat=r)(hd:f.nodes r=some (k,es))(hm:0<m)(gy:m<es.length)
  (gp:2≤q) (ml:q<f.cur.length) (hq:cu f q=0) (Aa:2≤top) (DR:top<f.cur.length) (qw:cu f top=0) (su:top≠q):
  IC (growF f t r k es m q top k0 k1)∧(growF f t r k es m q top k0 k1).nodes=upd (upd (upd f.nodes r (some (k,es.take m))) q (some (k,es.drop m))) top (some (2,[(k0,.empty,(r:Int)),(k1,.empty,(q:Int))])):=by
 refine⟨?_,rfl⟩;obtain⟨ht,hI⟩:=h.ip;have de:f.nodes q=none:=(h.dom.dead q).2 hq;have FG:f.nodes top=none:=(h.dom.dead top).2 qw;have T5:q≠r:=fun e=>by rw[←e,de]at hd;cases hd
 have T9:top≠r:=fun e=>by rw[←e,FG]at hd;cases hd
 have Hf:=h.lt hd;have Tm:=hI.ht r _ hd;have I1:IP (setN f r (k,es.take m)) ht:=hI.setN hd ((h.kb r _ hd).sub (fun e he=>List.mem_of_mem_take he) fun _=>oK gy hm) (Tm.sub gF.1);have dead1:∀z,f.nodes z=none→∀y e,(setN f r (k,es.take m)).nodes y=some e→z∉kids e:=fun z hz y e hy hk=>by
   by_cases ey:y=r
   ·subst ey
    have pn:upd f.nodes y (some (k,es.take m)) y=some e:=hy;rw[aD]at pn;cases pn;exact h.dead_kid hz hd (kS (fun e he=>List.mem_of_mem_take he) hk)
   ·have pn:upd f.nodes r (some (k,es.take m)) y=some e:=hy
    rw[aC _ _ ey]at pn;exact h.dead_kid hz pn hk
 have I2:=I1.takeAt (q:=q) (v:=ht r) (d:=(k,es.drop m)) gp ml ((h.kb r _ hd).sub (fun e he=>List.mem_of_mem_drop he) fun _=>nB gy) (Tm.sub gF.2)
  (fun hk=>h.dead_kid de hd (kS (fun e he=>List.mem_of_mem_drop he) hk)) (dead1 q de)
 have Cz:(takeAt (setN f r (k,es.take m)) q (k,es.drop m)).cur.length=f.cur.length:=by simp[takeAt,setN]
 have Mn:kids (2,[(k0,.empty,(r:Int)),(k1,.empty,(q:Int))])=[r,q]:=by simp[gK,ch]
 have I3:=I2.takeAt (q:=top) (v:=ht r+1) (d:=(2,[(k0,.empty,(r:Int)),(k1,.empty,(q:Int))])) Aa (by rw[Cz];exact DR)
  (.inr ⟨rfl,by simp,fun e he=>by
   rw[Cz];simp only[List.mem_cons,List.not_mem_nil,or_false]at he;rcases he with rfl | rfl
   ·exact⟨by simp,by simpa [ch] using Hf⟩
   ·exact⟨by simp,by simpa [ch] using ml⟩⟩)
  (.inr ⟨rfl,fun c hc=>by
   rw[Mn]at hc;simp only[List.mem_cons,List.not_mem_nil,or_false]at hc;rcases hc with rfl | rfl
   ·rw[aC _ _ (Ne.symm T5)]
   ·rw[aD]⟩)
  (fun hk=>by rw[Mn]at hk;simp[T9,su]at hk)
  (fun y e hy hk=>by
   by_cases ey:y=q
   ·subst ey
    have pn:upd (setN f r (k,es.take m)).nodes y (some (k,es.drop m)) y=some e:=hy;rw[aD]at pn;cases pn;exact h.dead_kid FG hd (kS (fun e he=>List.mem_of_mem_drop he) hk)
   ·have pn:upd (setN f r (k,es.take m)).nodes q (some (k,es.drop m)) y=some e:=hy
    rw[aC _ _ ey]at pn;exact dead1 top FG y e pn hk)
 have EW:(takeAt (takeAt (setN f r (k,es.take m)) q (k,es.drop m)) top (2,[(k0,.empty,(r:Int)),(k1,.empty,(q:Int))])).cur.length=f.cur.length:=by simp[takeAt,setN]
 refine(I3.setRoot t (q:=top) (by rw[EW];exact DR)).ic fun x hx=>?_;rw[bE,EW]at hx;have e1:=gA (d':=(k,es.take m)) Hf hd x;have e2:=lM (f:=setN f r (k,es.take m)) (q:=q) (d:=(k,es.drop m)) ml (by show upd f.nodes r _ q=none;rw[aC _ _ T5];exact de) hq x;have e3:=lM (f:=takeAt (setN f r (k,es.take m)) q (k,es.drop m)) (q:=top) (d:=(2,[(k0,.empty,(r:Int)),(k1,.empty,(q:Int))])) (by rw[Cz];exact DR)
  (by show upd (upd f.nodes r _) q _ top=none;rw[aC _ _ su,aC _ _ T9];exact FG)
  (by rw[dT _ (by exact ml),if_neg (Ne.symm su)];exact qw) x
 have e4:=wK (f:=takeAt (takeAt (setN f r (k,es.take m)) q (k,es.drop m)) top (2,[(k0,.empty,(r:Int)),(k1,.empty,(q:Int))])) (L:=.root t) (b:=r) fw hr top x;have e5:=sA k es m x;have e6:(kids (2,[(k0,.empty,(r:Int)),(k1,.empty,(q:Int))])).count x=one r x+one q x:=by
  rw[Mn];simp only[List.count_cons,List.count_nil,beq_iff_eq,one];omega
 have e0:=h.D0 x hx;rw[e4,e3,e2,e1,e6];omega
def moveF(f:fZ)(p c s:Nat)(k:Int)(ces ses pes:List E3):fZ:=setN (setN (setN f c (k,ces)) s (k,ses)) p (2,pes)
theorem IC.move{f:fZ}(h:IC f){pes pes' ces ces' ses ses':List E3}(hp:f.nodes p=some (2,pes))(hc:c∈kids (2,pes))(hs:s∈kids (2,pes))(g8:c≠s)(jd:f.nodes c=some (k,ces))(iv:f.nodes s=some (k,ses))
  (hk:kids (2,pes')=kids (2,pes)) (Rb:∀e∈pes',0≤e.2.2) (ay:∀x,(kids (k,ces')).count x+(kids (k,ses')).count x=(kids (k,ces)).count x+(kids (k,ses)).count x)
  (ku:∀e,e∈ces'∨e∈ses'→e∈ces∨e∈ses) (h0:ces'≠[]∧ses'≠[]):
  IC (moveF f p c s k ces' ses' pes')∧(moveF f p c s k ces' ses' pes').nodes=upd (upd (upd f.nodes c (some (k,ces'))) s (some (k,ses'))) p (some (2,pes')):=by
 refine⟨?_,rfl⟩;obtain⟨ht,hI⟩:=h.ip;have wh:p≠c:=fun e=>h.not_self hp (e▸hc);have KD:p≠s:=fun e=>h.not_self hp (e▸hs);have hv:ht c=ht s:=by have:=eL (hI.ht p _ hp) hc;have:=eL (hI.ht p _ hp) hs;omega
 have good:∀es',es'≠[]→(∀e∈es',e∈ces∨e∈ses)→kJ f.cur.length (k,es')∧HtN ht (ht c) (k,es'):=fun es' av af=>by
  have a1:=h.kb c _ jd;have a2:=h.kb s _ iv;have b1:=hI.ht c _ jd;have b2:=hI.ht s _ iv;rw[←hv]at b2;constructor
  ·rcases a1 with a1 | ⟨a1,_,a3⟩
   ·exact .inl a1
   ·rcases a2 with a2 | ⟨_,_,a4⟩
    ·simp only at a1 a2;omega
    ·refine .inr ⟨a1,av,fun e he=>?_⟩
     rcases af e he with q | q
     ·exact a3 e q
     ·exact a4 e q
  ·rcases b1 with b1 | ⟨b1,b3⟩
   ·exact .inl b1
   ·rcases b2 with⟨b2,_⟩ | ⟨_,b4⟩
    ·simp only at b1 b2;omega
    ·refine .inr ⟨b1,fun x hx=>?_⟩
     obtain⟨rfl,e,he,rfl⟩:=cP hx;rcases af e he with q | q
     ·exact b3 _ (aV.2 ⟨e,q,rfl⟩)
     ·exact b4 _ (aV.2 ⟨e,q,rfl⟩)
 have g1:=good ces' h0.1 fun e he=>ku e (.inl he);have g2:=good ses' h0.2 fun e he=>ku e (.inr he);have I1:=hI.setN (d':=(k,ces')) jd g1.1 g1.2;have io:(setN f c (k,ces')).nodes s=some (k,ses):=by show upd f.nodes c _ s=_;rw[aC _ _ (Ne.symm g8)];exact iv
 have I2:=I1.setN (d':=(k,ses')) io g2.1 (hv▸g2.2);have Bp:(setN (setN f c (k,ces')) s (k,ses')).nodes p=some (2,pes):=by
  show upd (upd f.nodes c _) s _ p=_
  rw[aC _ _ KD,aC _ _ wh];exact hp
 have I3:=I2.setN (d':=(2,pes')) Bp ?_ ?_
 ·refine I3.ic fun x hx=>?_
  have hx:x<f.cur.length:=hx;have e1:=gA (d':=(k,ces')) (h.lt jd) jd x;have e2:=gA (f:=setN f c (k,ces')) (d':=(k,ses')) (h.lt iv) io x;have e3:=gA (f:=setN (setN f c (k,ces')) s (k,ses')) (d':=(2,pes')) (h.lt hp) Bp x;have e4:=ay x;have e0:=h.D0 x hx;show df (setN _ p _) x=0
  rw[e3,e2,e1,hk];omega
 ·rcases h.kb p _ hp with q' | ⟨_,q1,q2⟩
  ·simp at q'
  ·refine .inr ⟨rfl,?_,fun e he=>⟨Rb e he,?_⟩⟩
   ·intro e;simp only at e;subst e;simp[gK]at hk;exact q1 (by simpa using hk)
   ·exact(h.kb p _ hp).kid (by rw[←hk];exact aV.2 ⟨e,he,rfl⟩)
 ·exact .inr ⟨rfl,fun x hx=>eL (hI.ht p _ hp) (hk▸hx)⟩
def mergeF(f:fZ)(p c s:Nat)(k:Int)(ces pes:List E3):fZ:=letGo (setN (setN f c (k,ces)) p (2,pes)) s
theorem IC.merge{f:fZ}(h:IC f){pes pes' ces ces' ses:List E3}(hp:f.nodes p=some (2,pes))(hc:c∈kids (2,pes))(hs:s∈kids (2,pes))(g8:c≠s)(jd:f.nodes c=some (k,ces))(iv:f.nodes s=some (k,ses))
  (hk:∀x,(kids (2,pes')).count x+one s x=(kids (2,pes)).count x) (Rb:∀e∈pes',0≤e.2.2) (Hb:pes'≠[]) (ay:∀x,(kids (k,ces')).count x=(kids (k,ces)).count x+(kids (k,ses)).count x)
  (ku:∀e,e∈ces'→e∈ces∨e∈ses) (h0:ces'≠[]):
  IC (mergeF f p c s k ces' pes')∧(mergeF f p c s k ces' pes').nodes=(if cu f s=1 then upd (upd (upd f.nodes c (some (k,ces'))) p (some (2,pes'))) s none else upd (upd f.nodes c (some (k,ces'))) p (some (2,pes'))):=by
 have hn:(mergeF f p c s k ces' pes').nodes=(if cu f s=1 then upd (upd (upd f.nodes c (some (k,ces'))) p (some (2,pes'))) s none else upd (upd f.nodes c (some (k,ces'))) p (some (2,pes'))):=by
  unfold mergeF;rw[cQ];rfl
 refine⟨?_,hn⟩;obtain⟨ht,hI⟩:=h.ip;have wh:p≠c:=fun e=>h.not_self hp (e▸hc);have KD:p≠s:=fun e=>h.not_self hp (e▸hs);have hv:ht c=ht s:=by have:=eL (hI.ht p _ hp) hc;have:=eL (hI.ht p _ hp) hs;omega
 have uq:∀x∈kids (2,pes'),x∈kids (2,pes):=fun x hx=>by
  have:=hk x;have:=List.count_pos_iff.2 hx;exact List.count_pos_iff.1 (by omega)
 have good:kJ f.cur.length (k,ces')∧HtN ht (ht c) (k,ces'):=by
  have a1:=h.kb c _ jd;have a2:=h.kb s _ iv;have b1:=hI.ht c _ jd;have b2:=hI.ht s _ iv;rw[←hv]at b2;constructor
  ·rcases a1 with a1 | ⟨a1,_,a3⟩
   ·exact .inl a1
   ·rcases a2 with a2 | ⟨_,_,a4⟩
    ·simp only at a1 a2;omega
    ·refine .inr ⟨a1,h0,fun e he=>?_⟩
     rcases ku e he with q | q
     ·exact a3 e q
     ·exact a4 e q
  ·rcases b1 with b1 | ⟨b1,b3⟩
   ·exact .inl b1
   ·rcases b2 with⟨b2,_⟩ | ⟨_,b4⟩
    ·simp only at b1 b2;omega
    ·refine .inr ⟨b1,fun x hx=>?_⟩
     obtain⟨rfl,e,he,rfl⟩:=cP hx;rcases ku e he with q | q
     ·exact b3 _ (aV.2 ⟨e,q,rfl⟩)
     ·exact b4 _ (aV.2 ⟨e,q,rfl⟩)
 have I1:=hI.setN (d':=(k,ces')) jd good.1 good.2;have G9:(setN f c (k,ces')).nodes p=some (2,pes):=by show upd f.nodes c _ p=_;rw[aC _ _ wh];exact hp
 have I2:=I1.setN (d':=(2,pes')) G9 ?_ (.inr ⟨rfl,fun x hx=>eL (hI.ht p _ hp) (uq x hx)⟩)
 ·have rq:(setN (setN f c (k,ces')) p (2,pes')).nodes s=some (k,ses):=by
   show upd (upd f.nodes c _) p _ s=_
   rw[aC _ _ (Ne.symm KD),aC _ _ (Ne.symm g8)];exact iv
  have AN:∀x∈kids (k,ses),x<f.cur.length:=fun x=>h.kid_lt iv;have mx:∀x∈kids (k,ses),(setN (setN f c (k,ces')) p (2,pes')).nodes x≠none:=fun x hx=>by
   obtain⟨d',fy⟩:=h.kid_live iv hx;show upd (upd f.nodes c _) p _ x≠none
   by_cases e1:x=p
   ·rw[e1,aD];simp
   ·rw[aC _ _ e1]
    by_cases e2:x=c
    ·rw[e2,aD];simp
    ·rw[aC _ _ e2,fy];simp
  refine(I2.letGo (b:=s) (h.lt iv) rq fun x hx=>⟨AN x hx,mx x hx⟩).ic fun x hx=>?_;rw[iE]at hx;have hx:x<f.cur.length:=hx;have e1:=gA (d':=(k,ces')) (h.lt jd) jd x;have e2:=gA (f:=setN f c (k,ces')) (d':=(2,pes')) (h.lt hp) G9 x;have e3:=yD (f:=setN (setN f c (k,ces')) p (2,pes')) (b:=s) (h.lt iv) rq AN x;have e4:=ay x;have e5:=hk x;have e0:=h.D0 x hx;rw[e3,e2,e1];omega
 ·rcases h.kb p _ hp with q' | ⟨_,q1,q2⟩
  ·simp at q'
  ·exact .inr ⟨rfl,Hb,fun e he=>⟨Rb e he,(h.kb p _ hp).kid (uq _ (aV.2 ⟨e,he,rfl⟩))⟩⟩
def fallF(f:fZ)(t r c:Nat):fZ:=setL (freeB f r) (.root t) c
theorem IC.fall{f:fZ}(h:IC f){r:Nat}{e:E3}(fw:t<f.roots.length)(hr:(f.roots.getD t (0,0)).2.toNat=r)(hd:f.nodes r=some (2,[e]))(h1:cu f r=1):
  IC (fallF f t r (ch e))∧(fallF f t r (ch e)).nodes=upd f.nodes r none:=by
 refine⟨?_,rfl⟩;obtain⟨ht,hI⟩:=h.ip;have hk:kids (2,[e])=[ch e]:=by simp[gK]
 have JM:ch e<f.cur.length:=h.kid_lt hd (by rw[hk];simp);have I1:=hI.freeB (h.lt hd);have hl:(freeB f r).cur.length=f.cur.length:=by simp[freeB]
 refine(I1.setRoot t (q:=ch e) (by rw[hl];exact JM)).ic fun x hx=>?_;rw[bE,hl]at hx;have e1:=rJ (h.lt hd) hd h1 x;have e2:=wK (f:=freeB f r) (L:=.root t) (b:=r) fw hr (ch e) x;have e3:(kids (2,[e])).count x=one (ch e) x:=by
  rw[hk];simp only[List.count_cons,List.count_nil,beq_iff_eq,one];omega
 have e0:=h.D0 x hx;show df (setL _ _ _) x=0
 rw[e2,e1,e3];omega
