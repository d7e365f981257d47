import Derived.Test.YtaahkgkdpnnhhaaGreatSh0
set_option linter.all false
namespace Go.Proofs.YtaahkgkdpnnhhaaGreat.Fo
abbrev E3:=ByteArray×ByteArray×Int
abbrev e0:E3:=(.empty,.empty,0)
abbrev Nd:=Int×List E3
structure fZ where
 roots:List (Int×Int)
 next:Int
 gen:Int
 nodes:Nat→Option Nd
 cur:List Int
 com:List Int
 table:List Int
def cu(f:fZ)(b:Nat):Int:=f.cur.getD b 0
def co(f:fZ)(b:Nat):Int:=f.com.getD b 0
def look(f:fZ)(b:Nat):Nd:=(f.nodes b).getD (0,[])
def ch(e:E3):Nat:=e.2.2.toNat
def kids(d:Nd):List Nat:=if d.1=2 then d.2.map ch else []
def bY:Option Nd→List Nat
 | none=>[]
 | some d=>kids d
def upd{α:Type}(g:Nat→α)(b:Nat)(v:α):Nat→α:=fun x=>if x=b then v else g x
theorem aD{α:Type}(g:Nat→α)(b:Nat)(v:α):upd g b v b=v:=by simp[upd]
theorem aC{α:Type}(g:Nat→α){b x:Nat}(v:α)(h:x≠b):upd g b v x=g x:=by simp[upd,h]
def cM:Nat→(Nat→Nat)→Nat
 | 0,_=>0
 | n+1,g=>cM n g+g n
theorem pN{n:Nat}{g g':Nat→Nat}(h:∀x,x<n→g x=g' x):cM n g=cM n g':=by
 induction n with
 | zero=>rfl
 | succ n ih=>simp only[cM];rw[ih fun x hx=>h x (by omega),h n (by omega)]
theorem lN{n:Nat}{g g':Nat→Nat}{b:Nat}(hb:b<n)(h:∀x,x≠b→g' x=g x):cM n g'+g b=cM n g+g' b:=by
 induction n with
 | zero=>omega
 | succ n ih=>
  simp only[cM];by_cases e:b=n
  ·subst e
   rw[pN (g:=g') (g':=g) fun x hx=>h x (by omega)];omega
  ·have:=ih (by omega)
   rw[h n (fun q=>e q.symm)];omega
theorem nK{n:Nat}{g:Nat→Nat}{b:Nat}(hb:b<n):g b≤cM n g:=by
 induction n with
 | zero=>omega
 | succ n ih=>
  simp only[cM];by_cases e:b=n
  ·subst e;omega
  ·have:=ih (by omega);omega
theorem aDO{n:Nat}{g:Nat→Nat}{a b:Nat}(ha:a<n)(hb:b<n)(hab:a≠b):g a+g b≤cM n g:=by
 induction n with
 | zero=>omega
 | succ n ih=>
  simp only[cM];by_cases e:b=n
  ·subst e;have:=nK (g:=g) (show a<b by omega);omega
  ·by_cases e':a=n
   ·subst e';have:=nK (g:=g) (show b<a by omega);omega
   ·have:=ih (by omega) (by omega);omega
theorem jM{n:Nat}{g:Nat→Nat}(h:0<cM n g):∃x,x<n∧0<g x:=by
 induction n with
 | zero=>simp[cM]at h
 | succ n ih=>
  simp only[cM]at h;by_cases e:0<g n
  ·exact⟨n,by omega,e⟩
  ·obtain⟨x,hx,hg⟩:=ih (by omega);exact⟨x,by omega,hg⟩
def deg(nodes:Nat→Option Nd)(n b:Nat):Nat:=cM n fun x=>(bY (nodes x)).count b
def rc(roots:List (Int×Int))(b:Nat):Nat:=(roots.map fun r=>r.2.toNat).count b
theorem wD(nodes:Nat→Option Nd){n x:Nat}(v:Option Nd)(hx:x<n)(b:Nat):deg (upd nodes x v) n b+(bY (nodes x)).count b=deg nodes n b+(bY v).count b:=by
 have:=lN (n:=n) (g:=fun y=>(bY (nodes y)).count b) (g':=fun y=>(bY (upd nodes x v y)).count b) hx (fun y hy=>by simp only[aC _ _ hy])
 simpa [deg,aD] using this
theorem eO(l:List Int)(i j:Nat)(v:Int):(l.set i v).getD j 0=if i=j∧i<l.length then v else l.getD j 0:=by
 simp only[gD,List.getElem?_set];by_cases h:i=j
 ·subst h
  by_cases h2:i<l.length
  ·simp[h2]
  ·simp[h2]
 ·simp[h]
def iM(c:List Int):List Nat→List Int
 | []=>c
 | k :: l=>iM (c.set k (c.getD k 0+1)) l
theorem mL(l:List Nat)(c:List Int):(iM c l).length=c.length:=by
 induction l generalizing c with
 | nil=>rfl
 | cons k l ih=>simp only[iM];rw[ih];simp
theorem sH(l:List Nat)(c:List Int)(h:∀k∈l,k<c.length)(b:Nat):(iM c l).getD b 0=c.getD b 0+(l.count b:Nat):=by
 induction l generalizing c with
 | nil=>simp[iM]
 | cons k l ih=>
  simp only[iM];rw[ih _ (fun x hx=>by simpa using h x (List.mem_cons_of_mem _ hx)),eO,List.count_cons];have hk:k<c.length:=h k (by simp);by_cases e:k=b
  ·subst e;simp[hk];omega
  ·simp[e]
def df(f:fZ)(x:Nat):Int:=cu f x -((rc f.roots x+deg f.nodes f.cur.length x:Nat):Int)
def setN(f:fZ)(b:Nat)(d:Nd):fZ:={f with nodes:=upd f.nodes b (some d)}
def takeAt(f:fZ)(q:Nat)(d:Nd):fZ:={f with nodes:=upd f.nodes q (some d),cur:=f.cur.set q 1}
def freeB(f:fZ)(b:Nat):fZ:={f with nodes:=upd f.nodes b none,cur:=f.cur.set b 0}
def letGo(f:fZ)(b:Nat):fZ:=
 if cu f b=1 then freeB f b else {f with cur:=iM (f.cur.set b (cu f b-1)) (bY (f.nodes b))}
abbrev Loc:=Sum Nat (Nat×Nat)
abbrev Loc.root(t:Nat):Loc:=.inl t
abbrev Loc.ent(b i:Nat):Loc:=.inr (b,i)
def setE(d:Nd)(i:Nat)(q:Nat):Nd:=(d.1,d.2.set i ((d.2.getD i e0).1,(d.2.getD i e0).2.1,(q:Int)))
def bJ(f:fZ):Loc→Nat
 | .inl t=>(f.roots.getD t (0,0)).2.toNat
 | .inr (b,i)=>ch ((look f b).2.getD i e0)
def setL(f:fZ)(L:Loc)(q:Nat):fZ:=match L with
 | .inl t=>{f with roots:=f.roots.set t ((f.roots.getD t (0,0)).1,(q:Int))}
 | .inr (b,i)=>setN f b (setE (look f b) i q)
def one(b x:Nat):Nat:=if b=x then 1 else 0
theorem cA(b:Nat):one b b=1:=by simp[one]
theorem fT{b x:Nat}(h:b≠x):one b x=0:=by simp[one,h]
theorem fD(f:fZ)(q x:Nat)(v:Int)(hq:q<f.cur.length):(f.cur.set q v).getD x 0=if q=x then v else cu f x:=by
 rw[eO];simp[hq,cu]
theorem gB{f:fZ}{b:Nat}{d d':Nd}(hb:b<f.cur.length)(hd:f.nodes b=some d)(x:Nat):
  df (setN f b d') x=df f x+((kids d).count x:Int) -((kids d').count x:Int):=by
 have:=wD f.nodes (some d') hb x
 rw[hd]at this;simp only[bY]at this;simp only[df,setN,cu];omega
theorem lK{f:fZ}{q:Nat}{d:Nd}(hq:q<f.cur.length)(hn:f.nodes q=none)(hc:cu f q=0)(x:Nat):
  df (takeAt f q d) x=df f x+(one q x:Int) -((kids d).count x:Int):=by
 have:=wD f.nodes (some d) hq x
 rw[hn]at this;simp only[bY,List.count_nil]at this;have hg:=fD f q x 1 hq;simp only[df,takeAt,cu,List.length_set]at *;rw[hg];by_cases e:q=x
 ·subst e;rw[if_pos rfl,cA];omega
 ·rw[if_neg e,fT e];omega
theorem sU{f:fZ}{b:Nat}{d:Nd}(hb:b<f.cur.length)(hd:f.nodes b=some d)(hc:cu f b=1)(x:Nat):
  df (freeB f b) x=df f x -(one b x:Int)+((kids d).count x:Int):=by
 have:=wD f.nodes none hb x
 rw[hd]at this;simp only[bY,List.count_nil]at this;have hg:=fD f b x 0 hb;simp only[df,freeB,cu,List.length_set]at *;rw[hg];by_cases e:b=x
 ·subst e;rw[if_pos rfl,cA];omega
 ·rw[if_neg e,fT e];omega
theorem zI{f:fZ}{b:Nat}{d:Nd}(hb:b<f.cur.length)(hd:f.nodes b=some d)(hk:∀c∈kids d,c<f.cur.length)(x:Nat):
  df (letGo f b) x=df f x -(one b x:Int)+((kids d).count x:Int):=by
 unfold letGo;by_cases hc:cu f b=1
 ·rw[if_pos hc];exact sU hb hd hc x
 ·rw[if_neg hc,hd]
  simp only[bY,df,cu,mL,List.length_set];rw[sH _ _ (fun k hk'=>by simpa using hk k hk')];have hg:=fD f b x (cu f b-1) hb;simp only[cu]at hg;rw[hg];by_cases e:b=x
  ·subst e;rw[if_pos rfl,cA];omega
  ·rw[if_neg e,fT e];omega
theorem count_set{l:List Nat}{i:Nat}(v x:Nat)(hi:i<l.length):(l.set i v).count x+(one (l.getD i 0) x)=l.count x+(one v x):=by
 induction l generalizing i with
 | nil=>simp at hi
 | cons a l ih=>
  cases i with
  | zero=>simp only[List.set_cons_zero,List.count_cons,List.getD_cons_zero,beq_iff_eq,one];omega
  | succ i=>
   simp only[List.set_cons_succ,List.count_cons,List.getD_cons_succ];have:=ih (i:=i) (by simpa using hi);omega
theorem gK(l:List E3)(i:Nat)(h:i<l.length):(l.map ch).getD i 0=ch (l.getD i e0):=by
 simp[gD,h]
theorem aHX(l:List E3)(i q:Nat):(l.set i ((l.getD i e0).1,(l.getD i e0).2.1,(q:Int))).map ch=(l.map ch).set i q:=by
 rw[List.map_set];congr 1
theorem aFB{d:Nd}(h2:d.1=2)(i q x:Nat)(hi:i<d.2.length):
  ((kids (setE d i q)).count x:Nat)+(one (ch (d.2.getD i e0)) x)=(kids d).count x+(one q x):=by
 simp only[kids,setE,h2,if_true];rw[aHX];have:=count_set (l:=d.2.map ch) (i:=i) q x (by simpa using hi);rw[gK _ _ hi]at this;exact this
def dQ(f:fZ):Loc→Prop
 | .inl t=>t<f.roots.length
 | .inr (b,i)=>b<f.cur.length∧∃es,f.nodes b=some (2,es)∧i<es.length
theorem aLO{rs:List (Int×Int)}{t:Nat}(q x:Nat)(a:Int)(ht:t<rs.length):rc (rs.set t (a,(q:Int))) x+(one ((rs.getD t (0,0)).2.toNat) x)=rc rs x+(one q x):=by
 simp only[rc,List.map_set,Int.toNat_natCast];have:=count_set (l:=rs.map fun r=>r.2.toNat) (i:=t) q x (by simpa using ht);rw[←this];congr 2;simp[gD,ht]
theorem wT{f:fZ}{L:Loc}{b:Nat}(h:dQ f L)(hb:bJ f L=b)(q x:Nat):
  df (setL f L q) x=df f x+(one b x:Int) -(one q x:Int):=by
 subst hb;cases L with
 | inl t=>
  have:=aLO (rs:=f.roots) q x (f.roots.getD t (0,0)).1 h
  simp only[df,setL,cu,bJ]at *;omega
 | inr bi=>
  obtain⟨b,i⟩:=bi;obtain⟨hb,es,he,hi⟩:=h;have hl:look f b=(2,es):=by simp[look,he]
  have h1:=gB (d':=setE (2,es) i q) hb he x;have h2:=aFB (d:=(2,es)) rfl i q x hi;simp only[setL,bJ,hl];simp only at h2;rw[h1];omega
def kJ(n:Nat)(d:Nd):Prop:=d.1=1∨(d.1=2∧d.2≠[]∧∀e∈d.2,0≤e.2.2∧ch e<n)
def HtN(ht:Nat→Nat)(v:Nat)(d:Nd):Prop:=(d.1=1∧v=0)∨(d.1=2∧∀c∈kids d,ht c+1=v)
def Hts(nodes:Nat→Option Nd)(ht:Nat→Nat):Prop:=∀b d,nodes b=some d→HtN ht (ht b) d
structure Dom(f:fZ):Prop where
 dead:∀b,f.nodes b=none↔cu f b=0
 pos:∀b,0≤cu f b
def KB(f:fZ):Prop:=∀b d,f.nodes b=some d→kJ f.cur.length d
def RB(f:fZ):Prop:=∀r∈f.roots,0≤r.2∧r.2.toNat<f.cur.length
structure IC(f:fZ):Prop where
 n8:8≤f.cur.length
 n512:f.cur.length≤512
 len:f.com.length=f.cur.length
 D0:∀x,x<f.cur.length→df f x=0
 dom:Dom f
 two:∀b,b<2→f.nodes b=none
 rb:RB f
 kb:KB f
 ht:∃ht,Hts f.nodes ht
theorem kJ.kid{n:Nat}{d:Nd}(h:kJ n d){c:Nat}(hc:c∈kids d):c<n:=by
 rcases h with h | ⟨h,_,h'⟩
 ·simp[kids,h]at hc
 ·simp only[kids,h,if_true,List.mem_map]at hc
  obtain⟨e,he,rfl⟩:=hc;exact(h' e he).2
theorem wM{f:fZ}{b:Nat}(h:f.cur.length≤b):cu f b=0:=by
 simp[cu,gD,h]
theorem aBF{nodes:Nat→Option Nd}{n b c:Nat}{d:Nd}(hd:nodes b=some d)(hb:b<n):(kids d).count c≤deg nodes n c:=by
 have:=nK (g:=fun x=>(bY (nodes x)).count c) hb
 have e:(bY (nodes b)).count c=(kids d).count c:=by rw[hd];rfl
 rw[←e];exact this
theorem aIQ{nodes:Nat→Option Nd}{n a b c:Nat}{d d':Nd}(hd:nodes a=some d)(ha:a<n)(hd':nodes b=some d')(hb:b<n)(hab:a≠b):(kids d).count c+(kids d').count c≤deg nodes n c:=by
 have:=aDO (g:=fun x=>(bY (nodes x)).count c) ha hb hab
 have e:(bY (nodes a)).count c=(kids d).count c:=by rw[hd];rfl
 have e':(bY (nodes b)).count c=(kids d').count c:=by rw[hd'];rfl
 rw[←e,←e'];exact this
theorem IC.lt{f:fZ}(h:IC f){b:Nat}{d:Nd}(hd:f.nodes b=some d):b<f.cur.length:=by
 refine Nat.lt_of_not_le fun hl=>?_;have:=(h.dom.dead b).2 (wM hl);rw[hd]at this;cases this
theorem IC.ge2{f:fZ}(h:IC f){b:Nat}{d:Nd}(hd:f.nodes b=some d):2≤b:=by
 refine Nat.le_of_not_lt fun hl=>?_;have:=h.two b hl;rw[hd]at this;cases this
theorem IC.names{f:fZ}(h:IC f){x:Nat}(hx:x<f.cur.length):cu f x=((rc f.roots x+deg f.nodes f.cur.length x:Nat):Int):=by
 have:=h.D0 x hx;unfold df at this;omega
theorem IC.live{f:fZ}(h:IC f){x:Nat}(hx:0<cu f x):∃d,f.nodes x=some d:=by
 cases e:f.nodes x with
 | none=>have:=(h.dom.dead x).1 e;omega
 | some d=>exact⟨d,rfl⟩
theorem IC.cu_pos{f:fZ}(h:IC f){b:Nat}{d:Nd}(hd:f.nodes b=some d):0<cu f b:=by
 have h1:=h.dom.pos b;have h2:cu f b≠0:=fun e=>by have:=(h.dom.dead b).2 e;rw[hd]at this;cases this
 omega
theorem IC.kid_lt{f:fZ}(h:IC f){b c:Nat}{d:Nd}(hd:f.nodes b=some d)(hc:c∈kids d):c<f.cur.length:=(h.kb b d hd).kid hc
theorem IC.kid_live{f:fZ}(h:IC f){b c:Nat}{d:Nd}(hd:f.nodes b=some d)(hc:c∈kids d):∃d',f.nodes c=some d':=by
 have hn:=h.kid_lt hd hc;refine h.live ?_;rw[h.names hn];have h1:0 <(kids d).count c:=List.count_pos_iff.2 hc;have:=aBF (c:=c) hd (h.lt hd);omega
theorem IC.root_live{f:fZ}(h:IC f){r:Int×Int}(hr:r∈f.roots):∃d,f.nodes r.2.toNat=some d:=by
 refine h.live ?_;rw[h.names (h.rb r hr).2];have:0<rc f.roots r.2.toNat:=List.count_pos_iff.2 (List.mem_map_of_mem hr);omega
theorem IC.only{f:fZ}(h:IC f){b c:Nat}{d:Nd}(h1:cu f c=1)(hd:f.nodes b=some d)(hc:c∈kids d):
  rc f.roots c=0∧(kids d).count c=1∧∀b' d',f.nodes b'=some d'→c∈kids d'→b'=b:=by
 have hn:=h.names (h.kid_lt hd hc);have k1:0 <(kids d).count c:=List.count_pos_iff.2 hc;have k2:=aBF (c:=c) hd (h.lt hd);refine⟨by omega,by omega,fun b' d' hd' hc'=>?_⟩;by_cases e:b'=b
 ·exact e
 ·have k3:=aIQ (c:=c) hd' (h.lt hd') hd (h.lt hd) e
  have k4:0 <(kids d').count c:=List.count_pos_iff.2 hc';omega
theorem IC.onlyRoot{f:fZ}(h:IC f){r:Int×Int}(hr:r∈f.roots)(h1:cu f r.2.toNat=1):rc f.roots r.2.toNat=1∧∀b d,f.nodes b=some d→r.2.toNat∉kids d:=by
 have hn:=h.names (h.rb r hr).2;have k1:0<rc f.roots r.2.toNat:=List.count_pos_iff.2 (List.mem_map_of_mem hr);refine⟨by omega,fun b d hd hc=>?_⟩;have k2:=aBF (c:=r.2.toNat) hd (h.lt hd);have k3:0 <(kids d).count r.2.toNat:=List.count_pos_iff.2 hc;omega
theorem IC.not_self{f:fZ}(h:IC f){b:Nat}{d:Nd}(hd:f.nodes b=some d):b∉kids d:=by
 obtain⟨ht,hh⟩:=h.ht;intro hb;rcases hh b d hd with⟨h1,_⟩ | ⟨_,h2⟩
 ·simp[kids,h1]at hb
 ·have:=h2 b hb;omega
theorem IC.dead_kid{f:fZ}(h:IC f){q b:Nat}{d:Nd}(hq:f.nodes q=none)(hd:f.nodes b=some d):q∉kids d:=fun hc=>by
 obtain⟨d',h'⟩:=h.kid_live hd hc;rw[hq]at h';cases h'
theorem HtN.congr{ht ht':Nat→Nat}{v:Nat}{d:Nd}(h:HtN ht v d)(hk:∀c∈kids d,ht' c=ht c):HtN ht' v d:=by
 rcases h with h | ⟨h1,h2⟩
 ·exact .inl h
 ·exact .inr ⟨h1,fun c hc=>by rw[hk c hc];exact h2 c hc⟩
theorem Hts.dead{nodes:Nat→Option Nd}{ht:Nat→Nat}(h:Hts nodes ht){q v:Nat}{d:Nd}(hq:∀b d,nodes b=some d→q∉kids d)(hd:HtN ht v d)(hs:q∉kids d):Hts (upd nodes q (some d)) (upd ht q v):=by
 intro b d' hb;by_cases e:b=q
 ·subst e
  rw[aD]at hb ⊢;cases hb;exact hd.congr fun c hc=>aC _ _ (fun e=>hs (e▸hc))
 ·rw[aC _ _ e]at hb ⊢
  exact(h b d' hb).congr fun c hc=>aC _ _ (fun e=>hq b d' hb (e▸hc))
theorem Hts.same{nodes:Nat→Option Nd}{ht:Nat→Nat}(h:Hts nodes ht){b:Nat}{d:Nd}(hd:HtN ht (ht b) d):Hts (upd nodes b (some d)) ht:=by
 intro x d' hx;by_cases e:x=b
 ·subst e;rw[aD]at hx;cases hx;exact hd
 ·rw[aC _ _ e]at hx;exact h x d' hx
theorem Hts.gone{nodes:Nat→Option Nd}{ht:Nat→Nat}(h:Hts nodes ht)(b:Nat):Hts (upd nodes b none) ht:=by
 intro x d' hx;by_cases e:x=b
 ·subst e;rw[aD]at hx;cases hx
 ·rw[aC _ _ e]at hx;exact h x d' hx
theorem Dom.setN{f:fZ}(h:Dom f){b:Nat}{d d':Nd}(hd:f.nodes b=some d):Dom (setN f b d'):=by
 refine⟨fun x=>?_,h.pos⟩;show upd f.nodes b (some d') x=none↔cu f x=0
 by_cases e:x=b
 ·subst e;rw[aD,←h.dead x,hd];simp
 ·rw[aC _ _ e];exact h.dead x
theorem Dom.takeAt{f:fZ}(h:Dom f){q:Nat}{d:Nd}(hq:q<f.cur.length):Dom (takeAt f q d):=by
 have hg:∀x,cu (Fo.takeAt f q d) x=if q=x then 1 else cu f x:=fun x=>fD f q x 1 hq;refine⟨fun x=>?_,fun x=>?_⟩
 ·rw[hg]
  show upd f.nodes q (some d) x=none↔_
  by_cases e:x=q
  ·subst e;rw[aD];simp
  ·rw[aC _ _ e,if_neg (Ne.symm e)];exact h.dead x
 ·rw[hg];have:=h.pos x;split<;>omega
theorem Dom.freeB{f:fZ}(h:Dom f){b:Nat}(hb:b<f.cur.length):Dom (freeB f b):=by
 have hg:∀x,cu (Fo.freeB f b) x=if b=x then 0 else cu f x:=fun x=>fD f b x 0 hb;refine⟨fun x=>?_,fun x=>?_⟩
 ·rw[hg]
  show upd f.nodes b none x=none↔_
  by_cases e:x=b
  ·subst e;rw[aD];simp
  ·rw[aC _ _ e,if_neg (Ne.symm e)];exact h.dead x
 ·rw[hg];have:=h.pos x;split<;>omega
theorem tI{f:fZ}{b:Nat}{d:Nd}(hb:b<f.cur.length)(hd:f.nodes b=some d)(hk:∀c∈kids d,c<f.cur.length)(h1:cu f b≠1)(x:Nat):
  cu (letGo f b) x=(if b=x then cu f b-1 else cu f x)+((kids d).count x:Int):=by
 unfold letGo;rw[if_neg h1,hd];simp only[bY,cu];rw[sH _ _ (fun k hk'=>by simpa using hk k hk')];have hg:=fD f b x (cu f b-1) hb;simp only[cu]at hg;rw[hg]
theorem Dom.letGo{f:fZ}(h:Dom f){b:Nat}{d:Nd}(hb:b<f.cur.length)(hd:f.nodes b=some d)(hk:∀c∈kids d,c<f.cur.length∧f.nodes c≠none):Dom (letGo f b):=by
 by_cases hc:cu f b=1
 ·have e:Fo.letGo f b=Fo.freeB f b:=by unfold Fo.letGo;rw[if_pos hc]
  rw[e];exact h.freeB hb
 ·have hg:=tI hb hd (fun c hc=>(hk c hc).1) hc
  have e:(Fo.letGo f b).nodes=f.nodes:=by unfold Fo.letGo;rw[if_neg hc]
  have p0:=h.pos b;have p1:cu f b≠0:=fun e=>by have:=(h.dead b).2 e;rw[hd]at this;cases this
  refine⟨fun x=>?_,fun x=>?_⟩
  ·rw[e,hg]
   by_cases eb:b=x
   ·subst eb;rw[if_pos rfl,hd];constructor
    ·intro q;cases q
    ·intro q;omega
   ·rw[if_neg eb]
    have px:=h.pos x;constructor
    ·intro q
     have:(kids d).count x=0:=List.count_eq_zero.2 fun hm=>(hk x hm).2 q
     have:=(h.dead x).1 q
     omega
    ·intro q;exact(h.dead x).2 (by omega)
  ·rw[hg];have px:=h.pos x;split<;>omega
theorem aE{f:fZ}{b:Nat}{d:Nd}(h:f.nodes b=some d):look f b=d:=by simp[look,h]
theorem hZ(f:fZ)(b:Nat):(letGo f b).cur.length=f.cur.length:=by
 unfold letGo;split
 ·simp[freeB]
 ·simp[mL]
theorem bG(f:fZ)(L:Loc)(q:Nat):(setL f L q).cur=f.cur:=by cases L<;>rfl
theorem cN(f:fZ)(b:Nat):(letGo f b).nodes=if cu f b=1 then upd f.nodes b none else f.nodes:=by
 unfold letGo;split<;>rfl
theorem lX(f:fZ)(b:Nat):(letGo f b).com=f.com:=by unfold letGo;split<;>rfl
theorem xT(f:fZ)(L:Loc)(q:Nat):(setL f L q).com=f.com:=by cases L<;>rfl
theorem dU(f:fZ)(b:Nat):(letGo f b).roots=f.roots:=by unfold letGo;split<;>rfl
theorem KB.letGo{f:fZ}(h:KB f)(b:Nat):KB (letGo f b):=by
 intro x d hx;rw[hZ];rw[cN]at hx;split at hx
 ·by_cases e:x=b
  ·subst e;rw[aD]at hx;cases hx
  ·rw[aC _ _ e]at hx;exact h x d hx
 ·exact h x d hx
theorem Hts.letGo{f:fZ}{ht:Nat→Nat}(h:Hts f.nodes ht)(b:Nat):Hts (letGo f b).nodes ht:=by
 rw[cN];split
 ·exact h.gone b
 ·exact h
theorem KB.upd{nodes:Nat→Option Nd}{n b:Nat}{d:Nd}(h:∀x e,nodes x=some e→kJ n e)(hd:kJ n d):∀x e,upd nodes b (some d) x=some e→kJ n e:=by
 intro x e hx;by_cases q:x=b
 ·subst q;rw[aD]at hx;cases hx;exact hd
 ·rw[aC _ _ q]at hx;exact h x e hx
theorem qX{α:Type}{l:List α}{i:Nat}{v x:α}(h:x∈l.set i v):x=v∨x∈l:=by
 rcases List.mem_or_eq_of_mem_set h with q | q
 ·exact .inr q
 ·exact .inl q
theorem kJ.setE{n:Nat}{d:Nd}(h:kJ n d)(h2:d.1=2)(i q:Nat)(hq:q<n):kJ n (setE d i q):=by
 rcases h with h | ⟨_,h3,h4⟩
 ·omega
 ·refine .inr ⟨h2,?_,?_⟩
  ·simp[Fo.setE,h3]
  ·intro e he
   rcases qX he with rfl | he
   ·exact⟨by simp,by simpa [ch] using hq⟩
   ·exact h4 e he
theorem uS{d:Nd}(h2:d.1=2){i q c:Nat}(h:c∈kids (setE d i q)):c=q∨c∈kids d:=by
 simp only[kids,setE,h2,if_true]at h ⊢;rw[aHX]at h;exact qX h
theorem gM{es:List E3}{i:Nat}(hi:i<es.length):ch (es.getD i e0)∈kids (2,es):=by
 simp only[kids,if_true,List.mem_map];refine⟨es.getD i e0,?_,rfl⟩;rw[gD,gE hi];exact List.getElem_mem hi
def shadowAt(f:fZ)(L:Loc)(q:Nat):fZ:=letGo (setL (takeAt f q (look f (bJ f L))) L q) (bJ f L)
theorem fF(f:fZ)(q:Nat)(d:Nd):(takeAt f q d).nodes=upd f.nodes q (some d):=rfl
theorem dT{f:fZ}{q:Nat}(d:Nd)(hq:q<f.cur.length)(x:Nat):cu (takeAt f q d) x=if q=x then 1 else cu f x:=fD f q x 1 hq
def cpN(f:fZ)(L:Loc)(q:Nat)(d:Nd):Nat→Option Nd:=match L with
 | .inl _=>upd f.nodes q (some d)
 | .inr (p,i)=>upd (upd f.nodes q (some d)) p (some (setE (look f p) i q))
def shN(f:fZ)(L:Loc)(q b:Nat)(d:Nd):Nat→Option Nd:=if cu f b=1 then upd (cpN f L q d) b none else cpN f L q d
theorem IC.shadow{f:fZ}(h:IC f){L:Loc}(hL:dQ f L){b:Nat}(hb:bJ f L=b){d:Nd}(hd:f.nodes b=some d){q:Nat}(hq2:2≤q)(hqn:q<f.cur.length)(hc:cu f q=0):
  IC (shadowAt f L q)∧(shadowAt f L q).nodes=shN f L q b d∧(shadowAt f L q).cur.length=f.cur.length∧(shadowAt f L q).com=f.com∧cu (shadowAt f L q) q=1:=by
 have hqd:f.nodes q=none:=(h.dom.dead q).2 hc;have hbq:b≠q:=fun e=>by rw[e,hqd]at hd;cases hd
 have hbn:=h.lt hd;have hkn:∀c∈kids d,c<f.cur.length:=fun c=>h.kid_lt hd;have hqk:q∉kids d:=h.dead_kid hqd hd;obtain⟨ht,hht⟩:=h.ht;have hH1:Hts (takeAt f q d).nodes (upd ht q (ht b)):=hht.dead (fun y e hy=>h.dead_kid hqd hy) (hht b d hd) hqk;have hK1:∀x e,(takeAt f q d).nodes x=some e→kJ f.cur.length e:=KB.upd h.kb (h.kb b d hd);have hD1:Dom (takeAt f q d):=h.dom.takeAt hqn;have hc1:(takeAt f q d).cur.length=f.cur.length:=by simp[takeAt]
 have hb1:(takeAt f q d).nodes b=some d:=by rw[fF,aC _ _ hbq];exact hd
 have key:dQ (takeAt f q d) L∧bJ (takeAt f q d) L=b∧Dom (setL (takeAt f q d) L q)∧KB (setL (takeAt f q d) L q)∧Hts (setL (takeAt f q d) L q).nodes (upd ht q (ht b))∧RB (setL (takeAt f q d) L q)∧(setL (takeAt f q d) L q).nodes b=some d∧(∀c,(takeAt f q d).nodes c≠none→(setL (takeAt f q d) L q).nodes c≠none)∧(∀c,c<2→(setL (takeAt f q d) L q).nodes c=none)∧(setL (takeAt f q d) L q).nodes=cpN f L q d:=by
  cases L with
  | inl t=>
   refine⟨hL,hb,⟨hD1.dead,hD1.pos⟩,fun x e hx=>by rw[bG,hc1];exact hK1 x e hx,hH1,?_,hb1,fun c hc=>hc,fun c hc=>?_,rfl⟩
   ·intro r hr
    rw[bG,hc1];rcases qX hr with rfl | hr
    ·exact⟨by simp,by simpa using hqn⟩
    ·exact h.rb r hr
   ·show upd f.nodes q (some d) c=none
    rw[aC _ _ (by omega)];exact h.two c hc
  | inr bi=>
   obtain⟨p,i⟩:=bi;obtain⟨hp,es,he,hi⟩:=hL;have hpq:p≠q:=fun e=>by rw[e,hqd]at he;cases he
   have hp1:(takeAt f q d).nodes p=some (2,es):=by rw[fF,aC _ _ hpq];exact he
   have hl:look (takeAt f q d) p=(2,es):=aE hp1;have hl':look f p=(2,es):=aE he;have hbk:b∈kids (2,es):=by
    rw[←hb];simp only[bJ,hl'];exact gM hi
   have hpb:p≠b:=fun e=>h.not_self he (e▸hbk);refine⟨⟨by rw[hc1];exact hp,es,hp1,hi⟩,?_,?_,?_,?_,?_,?_,?_,?_,?_⟩
   ·simp only[bJ,hl];rw[←hb];simp only[bJ,hl']
   ·simp only[setL];exact hD1.setN hp1
   ·intro x e hx
    simp only[setL,hl]at hx;have:(setL (takeAt f q d) (.ent p i) q).cur.length=f.cur.length:=by rw[bG,hc1]
    rw[this];exact KB.upd hK1 ((h.kb p _ he).setE rfl i q hqn) x e hx
   ·simp only[setL,hl]
    refine hH1.same ?_;rw[aC _ _ hpq];rcases hht p _ he with⟨q1,_⟩ | ⟨_,q2⟩
    ·simp at q1
    ·refine .inr ⟨rfl,fun c hc=>?_⟩
     rcases uS rfl hc with rfl | hc
     ·rw[aD];exact q2 b hbk
     ·rw[aC _ _ (fun(e:c=q)=>h.dead_kid hqd he (e▸hc))];exact q2 c hc
   ·intro r hr
    rw[bG,hc1];exact h.rb r hr
   ·simp only[setL,setN];rw[aC _ _ (Ne.symm hpb)];exact hb1
   ·intro c hc
    simp only[setL,setN];by_cases e:c=p
    ·subst e;rw[aD];simp
    ·rw[aC _ _ e];exact hc
   ·intro c hc
    simp only[setL,setN];have:=h.ge2 he;rw[aC _ _ (by omega),fF,aC _ _ (by omega)];exact h.two c hc
   ·simp only[setL,setN,hl,cpN,hl',fF]
 obtain⟨k1,k2,k3,k4,k5,k6,k7,k8,k9,k10⟩:=key;have hs:shadowAt f L q=letGo (setL (takeAt f q d) L q) b:=by unfold shadowAt;rw[hb,aE hd]
 have hlen:(shadowAt f L q).cur.length=f.cur.length:=by rw[hs,hZ,bG,hc1]
 have hcb:cu (setL (takeAt f q d) L q) b=cu f b:=by
  unfold cu;rw[bG];have:=dT d hqn b;unfold cu at this;rw[this,if_neg (Ne.symm hbq)]
 have hcq:cu (setL (takeAt f q d) L q) q=1:=by
  unfold cu;rw[bG];have:=dT d hqn q;unfold cu at this;rw[this,if_pos rfl]
 have hnod:(shadowAt f L q).nodes=shN f L q b d:=by
  rw[hs,cN,hcb,k10];rfl
 have hklive:∀c∈kids d,(setL (takeAt f q d) L q).nodes c≠none:=fun c hc=>by
  refine k8 c ?_;obtain⟨d',hd'⟩:=h.kid_live hd hc;rw[fF,aC _ _ (fun(e:c=q)=>hqk (e▸hc)),hd'];simp
 refine⟨⟨by rw[hlen];exact h.n8,by rw[hlen];exact h.n512,?_,?_,?_,?_,?_,?_,⟨_,by rw[hs];exact k5.letGo b⟩⟩,hnod,hlen,?_,?_⟩
 ·rw[hlen,hs,lX,xT];exact h.len
 ·intro x hx
  rw[hlen]at hx;rw[hs,zI (by rw[bG,hc1];exact hbn) k7 (fun c hc=>by rw[bG,hc1];exact hkn c hc),wT k1 k2,lK hqn hqd hc,h.D0 x hx];omega
 ·rw[hs];exact k3.letGo (by rw[bG,hc1];exact hbn) k7 (fun c hc=>⟨by rw[bG,hc1];exact hkn c hc,hklive c hc⟩)
 ·intro x hx
  rw[hs,cN];split
  ·have:=h.ge2 hd
   rw[aC _ _ (by omega)];exact k9 x hx
  ·exact k9 x hx
 ·intro r hr
  rw[hlen];rw[hs,dU]at hr;have:=k6 r hr;rw[bG,hc1]at this;exact this
 ·rw[hs];exact k4.letGo b
 ·rw[hs,lX,xT];rfl
 ·rw[hs]
  by_cases e:cu (setL (takeAt f q d) L q) b=1
  ·unfold letGo;rw[if_pos e]
   show(List.set _ b 0).getD q 0=1
   rw[fD _ _ _ _ (by rw[bG,hc1];exact hbn),if_neg hbq];exact hcq
  ·rw[tI (by rw[bG,hc1];exact hbn) k7 (fun c hc=>by rw[bG,hc1];exact hkn c hc) e,if_neg hbq,hcq,List.count_eq_zero.2 hqk];rfl
structure IP(f:fZ)(ht:Nat→Nat):Prop where
 n8:8≤f.cur.length
 n512:f.cur.length≤512
 len:f.com.length=f.cur.length
 dom:Dom f
 two:∀b,b<2→f.nodes b=none
 rb:RB f
 kb:KB f
 ht:Hts f.nodes ht
theorem IC.ip{f:fZ}(h:IC f):∃ht,IP f ht:=by
 obtain⟨ht,hh⟩:=h.ht;exact⟨ht,h.n8,h.n512,h.len,h.dom,h.two,h.rb,h.kb,hh⟩
theorem IP.ic{f:fZ}{ht:Nat→Nat}(h:IP f ht)(hD:∀x,x<f.cur.length→df f x=0):IC f:=
 ⟨h.n8,h.n512,h.len,hD,h.dom,h.two,h.rb,h.kb,ht,h.ht⟩
theorem IP.setN{f:fZ}{ht:Nat→Nat}(h:IP f ht){b:Nat}{d d':Nd}(hd:f.nodes b=some d)(hk:kJ f.cur.length d')(hh:HtN ht (ht b) d'):IP (setN f b d') ht:=by
 refine⟨h.n8,h.n512,h.len,h.dom.setN hd,fun x hx=>?_,h.rb,KB.upd h.kb hk,h.ht.same hh⟩;have:x≠b:=fun e=>by have:=h.two x hx;rw[e,hd]at this;cases this
 show upd f.nodes b (some d') x=none
 rw[aC _ _ this];exact h.two x hx
theorem IP.takeAt{f:fZ}{ht:Nat→Nat}(h:IP f ht){q v:Nat}{d:Nd}(hq2:2≤q)(hq:q<f.cur.length)(hk:kJ f.cur.length d)(hh:HtN ht v d)(hs:q∉kids d)(hn:∀y e,f.nodes y=some e→q∉kids e):IP (takeAt f q d) (upd ht q v):=by
 have hl:(Fo.takeAt f q d).cur.length=f.cur.length:=by simp[Fo.takeAt]
 refine⟨by rw[hl];exact h.n8,by rw[hl];exact h.n512,by rw[hl];exact h.len,h.dom.takeAt hq,fun x hx=>?_,?_,?_,h.ht.dead hn hh hs⟩
 ·show upd f.nodes q (some d) x=none
  rw[aC _ _ (by omega)];exact h.two x hx
 ·intro r hr;rw[hl];exact h.rb r hr
 ·intro x e hx;rw[hl];exact KB.upd h.kb hk x e hx
theorem IP.setRoot{f:fZ}{ht:Nat→Nat}(h:IP f ht)(t:Nat){q:Nat}(hq:q<f.cur.length):IP (setL f (.root t) q) ht:=by
 refine⟨h.n8,h.n512,h.len,⟨h.dom.dead,h.dom.pos⟩,h.two,?_,h.kb,h.ht⟩;intro r hr;rcases qX hr with rfl | hr
 ·exact⟨by simp,by rw[bG];simpa using hq⟩
 ·exact h.rb r hr
theorem IP.freeB{f:fZ}{ht:Nat→Nat}(h:IP f ht){b:Nat}(hb:b<f.cur.length):IP (freeB f b) ht:=by
 have hl:(Fo.freeB f b).cur.length=f.cur.length:=by simp[Fo.freeB]
 refine⟨by rw[hl];exact h.n8,by rw[hl];exact h.n512,by rw[hl];exact h.len,h.dom.freeB hb,fun x hx=>?_,?_,?_,h.ht.gone b⟩
 ·show upd f.nodes b none x=none
  by_cases e:x=b
  ·rw[e,aD]
  ·rw[aC _ _ e];exact h.two x hx
 ·intro r hr;rw[hl];exact h.rb r hr
 ·intro x e hx
  rw[hl];by_cases q:x=b
  ·subst q;have hx':upd f.nodes x none x=some e:=hx;rw[aD]at hx';cases hx'
  ·have hx':upd f.nodes b none x=some e:=hx;rw[aC _ _ q]at hx';exact h.kb x e hx'
theorem IP.letGo{f:fZ}{ht:Nat→Nat}(h:IP f ht){b:Nat}{d:Nd}(hb:b<f.cur.length)(hd:f.nodes b=some d)(hk:∀c∈kids d,c<f.cur.length∧f.nodes c≠none):IP (letGo f b) ht:=by
 have hl:=hZ f b;refine⟨by rw[hl];exact h.n8,by rw[hl];exact h.n512,by rw[hl,lX];exact h.len,h.dom.letGo hb hd hk,fun x hx=>?_,?_,KB.letGo h.kb b,h.ht.letGo b⟩
 ·rw[cN];split
  ·by_cases e:x=b
   ·rw[e,aD]
   ·rw[aC _ _ e];exact h.two x hx
  ·exact h.two x hx
 ·intro r hr;rw[hl];rw[dU]at hr;exact h.rb r hr
def insE{α:Type}(l:List α)(i:Nat)(e:α):List α:=l.take i++e :: l.drop i
def delE{α:Type}(l:List α)(i:Nat):List α:=l.take i++l.drop (i+1)
theorem gL(es:List E3):kids (2,es)=es.map ch:=by simp[kids]
theorem aFY(k:Int)(es:List E3):kids (k,es)=if k=2 then es.map ch else []:=rfl
theorem oC(k:Int)(a b:List E3):kids (k,a++b)=kids (k,a)++kids (k,b):=by
 simp only[aFY];split<;>simp
theorem rD(k:Int)(a:List E3)(m:Nat)(x:Nat):((kids (k,a)).count x:Nat)=(kids (k,a.take m)).count x+(kids (k,a.drop m)).count x:=by
 rw[←List.count_append,←oC,List.take_append_drop]
theorem aAV(l:List Nat)(i q x:Nat):(insE l i q).count x=l.count x+one q x:=by
 unfold insE;rw[List.count_append,List.count_cons];have:l.count x=(l.take i).count x+(l.drop i).count x:=by rw[←List.count_append,List.take_append_drop]
 simp only[beq_iff_eq,one];omega
theorem aED(es:List E3)(i:Nat)(e:E3)(x:Nat):(kids (2,insE es i e)).count x=(kids (2,es)).count x+one (ch e) x:=by
 rw[gL,gL,←aAV _ i];simp[insE,List.map_take,List.map_drop]
theorem fW(l:List Nat)(i x:Nat)(h:i<l.length):(delE l i).count x+one (l.getD i 0) x=l.count x:=by
 unfold delE;rw[List.count_append];have h1:l.count x=(l.take i).count x+(l.drop i).count x:=by rw[←List.count_append,List.take_append_drop]
 have h2:l.drop i=l.getD i 0 :: l.drop (i+1):=by
  rw[gD,gE h];exact List.drop_eq_getElem_cons h
 rw[h2,List.count_cons]at h1;simp only[beq_iff_eq,one]at *;omega
theorem uX(es:List E3)(i x:Nat)(h:i<es.length):(kids (2,delE es i)).count x+one (ch (es.getD i e0)) x=(kids (2,es)).count x:=by
 have:=fW (es.map ch) i x (by simpa using h)
 rw[gK _ _ h]at this;rw[gL,gL,←this];simp[delE,List.map_take,List.map_drop]
theorem aAC{α:Type}{l:List α}{i:Nat}{e x:α}(h:x∈insE l i e):x=e∨x∈l:=by
 simp only[insE,List.mem_append,List.mem_cons]at h;rcases h with h | h | h
 ·exact .inr (List.mem_of_mem_take h)
 ·exact .inl h
 ·exact .inr (List.mem_of_mem_drop h)
theorem oM{α:Type}{l:List α}{i:Nat}{x:α}(h:x∈delE l i):x∈l:=by
 simp only[delE,List.mem_append]at h;rcases h with h | h
 ·exact List.mem_of_mem_take h
 ·exact List.mem_of_mem_drop h
theorem kJ.sub{n:Nat}{k:Int}{es es':List E3}(h:kJ n (k,es))(hs:∀e∈es',e∈es)(h0:k=2→es'≠[]):kJ n (k,es'):=by
 rcases h with h | ⟨h1,h2,h3⟩
 ·exact .inl h
 ·exact .inr ⟨h1,h0 h1,fun e he=>h3 e (hs e he)⟩
theorem cL{k:Int}{es:List E3}{c:Nat}(h:c∈kids (k,es)):k=2∧∃e∈es,ch e=c:=by
 simp only[aFY]at h;split at h
 ·rename_i hk;exact⟨hk,by simpa using h⟩
 ·simp at h
theorem aU{es:List E3}{c:Nat}:c∈kids (2,es)↔∃e∈es,ch e=c:=by simp[gL]
theorem HtN.sub{ht:Nat→Nat}{v:Nat}{k:Int}{es es':List E3}(h:HtN ht v (k,es))(hs:∀e∈es',∃e'∈es,ch e=ch e'):HtN ht v (k,es'):=by
 rcases h with h | ⟨h1,h2⟩
 ·exact .inl h
 ·refine .inr ⟨h1,fun c hc=>?_⟩
  obtain⟨hk,e,he,rfl⟩:=cL hc;obtain⟨e',he',q⟩:=hs e he;rw[q];refine h2 _ ?_;simp only at h1;subst h1;exact aU.2 ⟨e',he',rfl⟩
theorem IC.keys{f:fZ}(h:IC f){b:Nat}{k:Int}{es es':List E3}(hd:f.nodes b=some (k,es))(hk:kids (k,es')=kids (k,es))(hp:k=2→∀e∈es',0≤e.2.2):IC (setN f b (k,es')):=by
 obtain⟨ht,hp'⟩:=h.ip;have hn:=h.kb b _ hd;refine(hp'.setN hd ?_ ?_).ic ?_
 ·rcases hn with hn | ⟨h1,h2,h3⟩
  ·exact .inl hn
  ·simp only at h1;subst h1
   refine .inr ⟨rfl,?_,fun e he=>⟨hp rfl e he,?_⟩⟩
   ·intro e;simp only at e h2;subst e;simp[gL]at hk;exact h2 (by simpa using hk)
   ·exact(h.kb b _ hd).kid (by rw[←hk];exact aU.2 ⟨e,he,rfl⟩)
 ·rcases hp'.ht b _ hd with q | ⟨q1,q2⟩
  ·exact .inl q
  ·exact .inr ⟨q1,fun c hc=>q2 c (hk▸hc)⟩
 ·intro x hx
  rw[gB (h.lt hd) hd,hk,h.D0 x hx];omega
