import Derived.Test.YtaahkgkdpnnhhaaGreatFo17
set_option linter.all false
namespace Go.Proofs.YtaahkgkdpnnhhaaGreat.Fo
variable{key val:ByteArray}{k:Int}{l m:List (ByteArray×ByteArray)}{es:List E3}{P:List Nat}{H b c h i t:Nat}{E ht:Nat→Nat}{nodes nodes':Nat→Option Nd}{A:Nat→Prop}{d:Nd}{hi lo:OB}{f g:fZ}
def dec(f:fZ)(b:Nat):fZ:={f with cur:=f.cur.set b (cu f b-1)}
def delN(f:fZ)(b:Nat):fZ:={f with nodes:=upd f.nodes b none}
def unname:Nat→fZ→Nat→fZ×Int
 | 0,f,b=>if 0<cu f b-1 then(dec f b,0)else(delN (dec f b) b,1)
 | h+1,f,b=>if 0<cu f b-1 then(dec f b,0)else
  let r:=(bZ (f.nodes b)).foldl (fun a k=>((unname h a.1 k).1,a.2+(unname h a.1 k).2)) (dec f b,1)
  (delN r.1 b,r.2)
def unL(h:Nat)(l:List Nat)(a:fZ×Int):fZ×Int:=l.foldl (fun a k=>((unname h a.1 k).1,a.2+(unname h a.1 k).2)) a
theorem lE(h k:Nat)(l:List Nat)(a:fZ×Int):unL h (k :: l) a=unL h l ((unname h a.1 k).1,a.2+(unname h a.1 k).2):=rfl
def qX:Nat→fZ→Nat→Prop
 | 0,f,b=>b<f.cur.length∧∃d,f.nodes b=some d∧(cu f b-1≤0→kids d=[])
 | h+1,f,b=>b<f.cur.length∧∃d,f.nodes b=some d∧(cu f b-1≤0→∀l k m,kids d=l++k :: m→qX h (unL h l (dec f b,1)).1 k)
structure Ab(f g:fZ)(A:Nat→Prop):Prop where
 cur:f.cur=g.cur
 roots:f.roots=g.roots
 off:∀x,¬A x→f.nodes x=g.nodes x
 on:∀x,A x→g.nodes x=none
 rest:f.com=g.com∧f.next=g.next∧f.gen=g.gen∧f.table=g.table
def fF(nodes:Nat→Option Nd)(n:Nat):Nat:=cR n fun x=>if(nodes x).isSome then 1 else 0
theorem sG{n:Nat}(hb:b<n)(hd:nodes b=some d):fF (upd nodes b none) n+1=fF nodes n:=by
 have:=lS (n:=n) (g:=fun x=>if(nodes x).isSome then 1 else 0) (g':=fun x=>if(upd nodes b none x).isSome then 1 else 0) hb (fun y hy=>by simp only[aC _ _ hy])
 simp only[aD,hd,Option.isSome_some,Option.isSome_none,if_true]at this;unfold fF;simpa using this
theorem mZ(h:Ab f g A)(x:Nat):cu f x=cu g x:=by unfold cu;rw[h.cur]
structure Un(h:Nat)(f g:fZ)(A:Nat→Prop)(ht:Nat→Nat)(l:List Nat)(E:Nat→Nat)(r:fZ×Int)(n0:Int):Prop where
 ex:∃g',Ab r.1 g' A∧IP g' ht∧(∀x,x<g'.cur.length→df g' x=((E x-l.count x:Nat):Int))∧g'.cur.length=g.cur.length∧(∀x,g'.nodes x=g.nodes x∨g'.nodes x=none)∧r.2=n0+((fF g.nodes g.cur.length:Int) -(fF g'.nodes g.cur.length:Int))∧g'.roots=g.roots∧g'.com=g.com∧g'.next=g.next∧g'.gen=g.gen∧g'.table=g.table
theorem aBU(one_ok:∀{f g:fZ} {A:Nat→Prop} {ht:Nat→Nat} {E:Nat→Nat} {b:Nat},Ab f g A→IP g ht→(∀x,x<g.cur.length→df g x=(E x:Int))→b<g.cur.length→1≤E b→ht b=h→qX h f b∧Un h f g A ht [b] E (unname h f b) 0):
  ∀(l:List Nat) {f g:fZ} {A:Nat→Prop} {ht:Nat→Nat} {E:Nat→Nat} (n0:Int),Ab f g A→IP g ht→(∀x,x<g.cur.length→df g x=(E x:Int))→(∀b∈l,b<g.cur.length∧ht b=h)→(∀x,l.count x≤E x)→
   (∀l1 k m,l=l1++k :: m→qX h (unL h l1 (f,n0)).1 k)∧Un h f g A ht l E (unL h l (f,n0)) n0
 | [],f,g,A,ht,E,n0,ab,ip,hE,hl,hc=>⟨fun l1 k m e=>by simp at e,⟨g,ab,ip,fun x hx=>by simpa using hE x hx,rfl,fun _=>.inl rfl,by simp[unL],rfl,rfl,rfl,rfl,rfl⟩⟩
 | b :: l,f,g,A,ht,E,n0,ab,ip,hE,hl,hc=>by
  have hb:=hl b List.mem_cons_self;have CE:1≤E b:=by have:=hc b;rw[List.count_cons]at this;simp at this;omega
  obtain⟨s1,⟨g',a1,a2,a3,a4,a5,a6,a7,a8,a9,a10,a11⟩⟩:=one_ok ab ip hE hb.1 CE hb.2;have en:∀x,([b]:List Nat).count x=one b x:=fun x=>by simp only[List.count_cons,List.count_nil,beq_iff_eq,one];omega
  have au:∀x,(b :: l).count x=l.count x+one b x:=fun x=>by simp only[List.count_cons,beq_iff_eq,one]
  obtain⟨r1,⟨g2,b1,b2,b3,b4,b5,b6,b7,b8,b9,b10,b11⟩⟩:=aBU one_ok l (E:=fun x=>E x-one b x) (n0+(unname h f b).2) a1 a2 (fun x hx=>by rw[a3 x hx,en]) (fun x hx=>by rw[a4];exact hl x (List.mem_cons_of_mem _ hx)) (fun x=>by have:=hc x;rw[au]at this;omega);refine⟨fun l1 k m e=>?_,⟨g2,?_,b2,fun x hx=>?_,b4.trans a4,fun x=>?_,?_,b7.trans a7,b8.trans a8,b9.trans a9,b10.trans a10,b11.trans a11⟩⟩
  ·cases l1 with
   | nil=>simp only[List.nil_append,List.cons.injEq]at e;rw[←e.1];exact s1
   | cons y l1=>
    simp only[List.cons_append,List.cons.injEq]at e;obtain⟨rfl,e⟩:=e;rw[lE];exact r1 l1 k m e
  ·rw[lE];exact b1
  ·rw[b3 x hx,au];congr 1;omega
  ·rcases b5 x with q | q
   ·rw[q];exact a5 x
   ·exact .inr q
  ·rw[lE,b6,a6,a4];omega
theorem IP.decr(h:IP g ht)(hb:b<g.cur.length)(h2:1<cu g b):IP (dec g b) ht:=by
 have hl:(dec g b).cur.length=g.cur.length:=by simp[dec]
 have hg:∀x,cu (dec g b) x=if b=x then cu g b-1 else cu g x:=fun x=>fC g b x _ hb;refine⟨by rw[hl];exact h.n8,by rw[hl];exact h.n512,by rw[hl];exact h.len,⟨fun x=>?_,fun x=>?_⟩,h.two,?_,?_,h.ht⟩
 ·rw[hg];split
  ·rename_i e;subst e
   have:=h.dom.dead b
   constructor
   ·intro q;have:=this.1 q;omega
   ·intro q;omega
  ·exact h.dom.dead x
 ·rw[hg];have:=h.dom.pos x;split<;>omega
 ·intro r hr;rw[hl];exact h.rb r hr
 ·intro x e hx;rw[hl];exact h.kb x e hx
theorem aLF(hb:b<g.cur.length)(x:Nat):df (dec g b) x=df g x -(one b x:Int):=by
 have hl:(dec g b).cur.length=g.cur.length:=by simp[dec]
 have hg:cu (dec g b) x=if b=x then cu g b-1 else cu g x:=fC g b x _ hb;unfold df;rw[hl,hg];show _ -((rc g.roots x+deg g.nodes g.cur.length x:Nat):Int)=_
 by_cases e:b=x
 ·subst e;rw[if_pos rfl,cA];omega
 ·rw[if_neg e,fT e];omega
theorem kD(ab:Ab f g A)(ip:IP g ht)(hE:∀x,x<g.cur.length→df g x=(E x:Int))(hb:b<g.cur.length)(CE:1≤E b):
  ∃d,g.nodes b=some d∧¬A b∧f.nodes b=some d∧(0<cu g b-1→Un h f g A ht [b] E (dec f b,0) 0):=by
 have h1:=hE b hb;have hl:∃d,g.nodes b=some d:=by
  cases e:g.nodes b with
  | some d=>exact⟨d,rfl⟩
  | none=>have:=(ip.dom.dead b).1 e;unfold df at h1;omega
 obtain⟨d,hd⟩:=hl;have hA:¬A b:=fun q=>by have:=ab.on b q;rw[hd]at this;cases this
 refine⟨d,hd,hA,(ab.off b hA).trans hd,fun hc=>⟨dec g b,⟨?_,ab.roots,ab.off,ab.on,ab.rest⟩,ip.decr hb (by omega),fun x hx=>?_,by simp[dec],fun _=>.inl rfl,?_,rfl,rfl,rfl,rfl,rfl⟩⟩
 ·show f.cur.set b _=g.cur.set b _;rw[mZ ab b,ab.cur]
 ·have bq:x<g.cur.length:=by simpa [dec] using hx
  rw[aLF hb,hE x bq];simp only[List.count_nil,List.count_cons,beq_iff_eq,one];by_cases e:b=x
  ·subst e;simp;omega
  ·simp[e]
 ·show(0:Int)=0+_
  have e:(dec g b).nodes=g.nodes:=rfl;rw[e];omega
theorem lF(ab:Ab f g A)(ip:IP g ht)(hE:∀x,x<g.cur.length→df g x=(E x:Int))(hb:b<g.cur.length)(CE:1≤E b)(hd:g.nodes b=some d)(hc:¬0<cu g b-1):
  Ab (dec f b) (freeB g b) (fun x=>A x∨x=b)∧IP (freeB g b) ht∧(∀x,x<g.cur.length→df (freeB g b) x=(((E x-one b x)+(kids d).count x:Nat):Int))∧cu g b=1:=by
 have h1:=hE b hb;have c1:cu g b=1:=by unfold df at h1;omega
 refine⟨⟨?_,ab.roots,fun x hx=>?_,fun x hx=>?_,ab.rest⟩,ip.freeB hb,fun x hx=>?_,c1⟩
 ·show f.cur.set b _=g.cur.set b _;rw[mZ ab b,ab.cur,c1];rfl
 ·show f.nodes x=upd g.nodes b none x
  rw[aC _ _ (fun e=>hx (.inr e))];exact ab.off x fun q=>hx (.inl q)
 ·show upd g.nodes b none x=none
  by_cases e:x=b
  ·rw[e,aD]
  ·rw[aC _ _ e];exact ab.on x (hx.resolve_right e)
 ·rw[rJ hb hd c1,hE x hx]
  by_cases e:b=x
  ·subst e;rw[cA];omega
  ·rw[fT e];omega
theorem vT:∀{h:Nat} {f g:fZ} {A:Nat→Prop} {ht:Nat→Nat} {E:Nat→Nat} {b:Nat},Ab f g A→IP g ht→(∀x,x<g.cur.length→df g x=(E x:Int))→b<g.cur.length→1≤E b→ht b=h→
  qX h f b∧Un h f g A ht [b] E (unname h f b) 0:=by
 intro h;induction h with
 | zero=>
  intro f g A ht E b ab ip hE hb CE hh;obtain⟨d,hd,we,ll,dec_case⟩:=kD ab ip hE hb CE;have gi:kids d=[]:=by
   refine List.eq_nil_iff_forall_not_mem.2 fun c hc=>?_;rcases ip.ht b d hd with⟨q,_⟩ | ⟨_,q⟩
   ·simp[kids,q]at hc
   ·have:=q c hc;omega
  refine⟨⟨by rw[ab.cur];exact hb,d,ll,fun _=>gi⟩,?_⟩;unfold unname;rw[mZ ab b];by_cases hc:0<cu g b-1
  ·rw[if_pos hc];exact dec_case hc
  ·rw[if_neg hc]
   obtain⟨e1,e2,e3,e4⟩:=lF ab ip hE hb CE hd hc;refine⟨freeB g b,⟨e1.cur,e1.roots,fun x hx=>?_,fun x hx=>e1.on x (.inl hx),e1.rest⟩,e2,fun x hx=>?_,by simp[freeB],fun x=>?_,?_,rfl,rfl,rfl,rfl,rfl⟩
   ·show upd f.nodes b none x=upd g.nodes b none x
    by_cases e:x=b
    ·subst e;rw[aD,aD]
    ·rw[aC _ _ e,aC _ _ e];exact ab.off x hx
   ·have bq:x<g.cur.length:=by simpa [freeB] using hx
    rw[e3 x bq,gi];simp only[List.count_nil,List.count_cons,beq_iff_eq,one];congr 1;omega
   ·by_cases e:x=b
    ·exact .inr (by show upd g.nodes b none x=none;rw[e,aD])
    ·exact .inl (aC _ _ e)
   ·show(1:Int)=_
    have:=sG hb hd
    have e:(freeB g b).nodes=upd g.nodes b none:=rfl;rw[e];omega
 | succ h ih=>
  intro f g A ht E b ab ip hE hb CE hh;obtain⟨d,hd,we,ll,dec_case⟩:=kD ab ip hE hb CE;by_cases hc:0<cu g b-1
  ·refine⟨⟨by rw[ab.cur];exact hb,d,ll,fun q=>by rw[mZ ab b]at q;omega⟩,?_⟩
   unfold unname;rw[mZ ab b,if_pos hc];exact dec_case hc
  ·obtain⟨e1,e2,e3,e4⟩:=lF ab ip hE hb CE hd hc
   have ah:(freeB g b).cur.length=g.cur.length:=by simp[freeB]
   have Df:∀x,x <(freeB g b).cur.length→df (freeB g b) x=(((E x-one b x)+(kids d).count x:Nat):Int):=fun x hx=>e3 x (by rw[ah]at hx;exact hx);obtain⟨r1,⟨g2,b1,b2,b3,b4,b5,b6,b7,b8,b9,b10,b11⟩⟩:=aBU ih (kids d) (E:=fun x=>(E x-one b x)+(kids d).count x) 1 e1 e2 Df (fun c bj=>⟨by rw[ah];exact(ip.kb b d hd).kid bj,by
    rcases ip.ht b d hd with⟨q,_⟩ | ⟨_,q⟩
    ·simp[kids,q]at bj
    ·have:=q c bj;omega⟩) (fun x=>by omega)
   refine⟨⟨by rw[ab.cur];exact hb,d,ll,fun _ l k m e=>r1 l k m e⟩,?_⟩;unfold unname;rw[mZ ab b,if_neg hc,ll];have ba:g2.nodes b=none:=by
    rcases b5 b with q | q
    ·rw[q];exact aD _ _ _
    ·exact q
   refine⟨g2,⟨b1.cur,b1.roots,fun x hx=>?_,fun x hx=>b1.on x (.inl hx),b1.rest⟩,b2,fun x hx=>?_,b4.trans ah,fun x=>?_,?_,b7,b8,b9,b10,b11⟩
   ·show upd (unL h (kids d) (dec f b,1)).1.nodes b none x=g2.nodes x
    by_cases e:x=b
    ·subst e;rw[aD,ba]
    ·rw[aC _ _ e];exact b1.off x fun q=>by rcases q with q | q;exact hx q;exact e q
   ·rw[b3 x hx]
    simp only[List.count_nil,List.count_cons,beq_iff_eq,one];congr 1;omega
   ·rcases b5 x with q | q
    ·rw[q]
     by_cases e:x=b
     ·exact .inr (by rw[e];exact aD _ _ _)
     ·exact .inl (aC _ _ e)
    ·exact .inr q
   ·show(unL h (kids d) (dec f b,1)).2=_
    rw[b6,ah];have:=sG hb hd;have e:(freeB g b).nodes=upd g.nodes b none:=rfl;rw[e];omega
def rid(f:fZ)(t:Nat):Int:=(f.roots.getD t (0,0)).1
structure Inv(f:fZ):Prop where
 ic:IC f
 ne:0<f.roots.length
 r16:f.roots.length≤16
 ok:∀t,t<f.roots.length→∃h,Ok f.nodes h (aB f t) none none∧(h=0∨2≤sz f.nodes (aB f t))
 ids:∀i j,i<j→j<f.roots.length→rid f i<rid f j
 idb:∀i,i<f.roots.length→0≤rid f i∧rid f i<f.next
 nx:1≤f.next∧f.next≤65535
 gn:1≤f.gen∧f.gen≤1099511627776
 cm0:∀b,b<2→co f b=0
 cmr:∀b,0≤co f b∧co f b≤65535
theorem Inv.wk(h:Inv f)(ht:t<f.roots.length):∃H,Wk f t H∧cD f t H:=by
 obtain⟨H,h1,h2⟩:=h.ok t ht;exact⟨H,⟨h.ic,ht,h1,fun u hu _=>h.ok u hu⟩,h2⟩
theorem tB(s:aW f g)(t:Nat):rid g t=rid f t:=by
 unfold rid;have h:∀l:List (Int×Int),(l.getD t (0,0)).1=(l.map Prod.fst).getD t 0:=fun l=>by
  simp only[gD,List.getElem?_map];cases l[t]?<;>rfl
 rw[h,h,s.ids]
theorem Inv.after(h:Inv f)(w:Wk g t H)(r:cD g t H)(s:aW f g):Inv g:=by
 have hl:=s.len;have Cv:∀b,co g b=co f b:=fun b=>by unfold co;rw[s.com]
 refine⟨w.ic,by rw[hl];exact h.ne,by rw[hl];exact h.r16,fun u hu=>?_,fun i j im hj=>?_,fun i hi=>?_,by rw[s.next];exact h.nx,by rw[s.gen];exact h.gn,fun b hb=>by rw[Cv];exact h.cm0 b hb,fun b=>by rw[Cv];exact h.cmr b⟩
 ·by_cases e:u=t
  ·subst e;exact⟨H,w.ok,r⟩
  ·exact w.oth u hu e
 ·rw[tB s,tB s];exact h.ids i j im (by rw[←hl];exact hj)
 ·rw[tB s,s.next];exact h.idb i (by rw[←hl];exact hi)
def cU(f:fZ)(t:Nat):fZ:={f with roots:=f.roots++[(f.next,(f.roots.getD t (0,0)).2)],next:=f.next+1,cur:=f.cur.set (aB f t) (cu f (aB f t)+1)}
theorem Inv.clone(h:Inv f)(ht:t<f.roots.length)(ju:f.roots.length<16)(hn:f.next<65535):Inv (cU f t):=by
 obtain⟨d,hd⟩:=h.ic.root_live (aO ht);have fy:f.nodes (aB f t)=some d:=hd;have hb:=h.ic.lt fy;have hl:(cU f t).cur.length=f.cur.length:=by simp[cU]
 have hg:∀x,cu (cU f t) x=if aB f t=x then cu f (aB f t)+1 else cu f x:=fun x=>fC f _ x _ hb;have qv:(cU f t).roots.length=f.roots.length+1:=by simp[cU]
 have bx:∀u,(cU f t).roots.getD u (0,0)=if u<f.roots.length then f.roots.getD u (0,0)else if u=f.roots.length then(f.next,(f.roots.getD t (0,0)).2)else(0,0):=fun u=>by
  show(f.roots++[_]).getD u (0,0)=_
  rw[cX];split
  ·rfl
  ·split
   ·rename_i e;subst e;simp
   ·rename_i h1 h2
    obtain⟨m,hm⟩:∃m,u-f.roots.length=m+1:=⟨u-f.roots.length-1,by omega⟩;rw[hm];rfl
 have fk:∀u,u<f.roots.length+1→aB (cU f t) u=aB f (if u<f.roots.length then u else t):=fun u hu=>by
  unfold aB;rw[bx];by_cases e:u<f.roots.length
  ·rw[if_pos e,if_pos e]
  ·rw[if_neg e,if_pos (by omega),if_neg e]
 have Q0:∀u,u<f.roots.length+1→rid (cU f t) u=if u<f.roots.length then rid f u else f.next:=fun u hu=>by
  unfold rid;rw[bx];by_cases e:u<f.roots.length
  ·rw[if_pos e,if_pos e]
  ·rw[if_neg e,if_pos (by omega),if_neg e]
 have i5:=h.nx;refine⟨⟨by rw[hl];exact h.ic.n8,by rw[hl];exact h.ic.n512,by rw[hl];exact h.ic.len,fun x hx=>?_,⟨fun x=>?_,fun x=>?_⟩,h.ic.two,fun r hr=>?_,fun x e hx=>?_,h.ic.ht⟩,by omega,by omega,fun u hu=>?_,fun i j im hj=>?_,fun i hi=>?_,?_,h.gn,h.cm0,h.cmr⟩
 ·rw[hl]at hx
  have h0:=h.ic.D0 x hx;unfold df at h0 ⊢;rw[hl,hg];have XB:rc (cU f t).roots x=rc f.roots x+one (aB f t) x:=by
   unfold rc;show((f.roots++[(f.next,(f.roots.getD t (0,0)).2)]).map fun r=>r.2.toNat).count x=_
   rw[List.map_append,List.count_append];congr 1;show([aB f t]:List Nat).count x=_
   simp[List.count_cons,one]
  rw[XB];show _ -((_+deg f.nodes _ x:Nat):Int)=0
  by_cases e:aB f t=x
  ·subst e;rw[if_pos rfl,cA];omega
  ·rw[if_neg e,fT e];omega
 ·rw[hg];split
  ·rename_i e;subst e
   show f.nodes _=none↔_
   rw[fy];have:=h.ic.cu_pos fy;constructor
   ·intro q;cases q
   ·intro q;omega
  ·exact h.ic.dom.dead x
 ·rw[hg];have:=h.ic.dom.pos x;have:=h.ic.dom.pos (aB f t);split<;>omega
 ·rw[hl]
  have jr:r∈f.roots++[(f.next,(f.roots.getD t (0,0)).2)]:=hr;rcases List.mem_append.1 jr with jr | jr
  ·exact h.ic.rb r jr
  ·simp only[List.mem_cons,List.not_mem_nil,or_false]at jr
   subst jr;exact(h.ic.rb (f.roots.getD t (0,0)) (aO ht))
 ·rw[hl];exact h.ic.kb x e hx
 ·rw[qv]at hu
  rw[fk u hu];split
  ·exact h.ok u (by assumption)
  ·exact h.ok t ht
 ·rw[qv]at hj
  rw[Q0 i (by omega),Q0 j hj,if_pos (by omega)];split
  ·exact h.ids i j im (by assumption)
  ·exact(h.idb i (by omega)).2
 ·rw[qv]at hi
  rw[Q0 i hi];show _∧_<f.next+1
  split
  ·have:=h.idb i (by assumption);omega
  ·omega
 ·show 1≤f.next+1∧f.next+1≤65535;omega
def fM(f:fZ)(t:Nat):fZ:={f with roots:=delE f.roots t}
def drop(f:fZ)(t H:Nat):fZ×Int:=unname H (fM f t) (aB f t)
theorem aMD(h:Ab f g fun _=>False):f=g:=by
 obtain⟨h1,h2,h3,h4,h5,h6,h7,h8⟩:=h;cases f;cases g;simp only at *;subst h1;subst h2;subst h5;subst h6;subst h7;subst h8;congr;exact funext fun x=>h3 x (fun q=>q)
theorem yM(hh:Hts nodes ht):∀{h b:Nat} {lo hi:OB},Ok nodes h b lo hi→ht b=h
 | 0,b,lo,hi,hk=>by
  obtain⟨es,e1,_⟩:=hk;rcases hh b _ e1 with⟨_,q⟩ | ⟨q,_⟩
  ·exact q
  ·simp at q
 | h+1,b,lo,hi,hk=>by
  obtain⟨es,e1,_,e3,_,e5⟩:=hk;have h0:0<es.length:=List.length_pos_iff.2 e3;have:=yM hh (e5 0 h0).2;have:=eL (hh b _ e1) (aP h0);omega
theorem wM(h:Inv f)(ht:t<f.roots.length)(h1:1<f.roots.length)(hk:Ok f.nodes H (aB f t) none none):
  Inv (drop f t H).1∧qX H (fM f t) (aB f t)∧(drop f t H).2=(fF f.nodes f.cur.length:Int) -(fF (drop f t H).1.nodes f.cur.length:Int)∧(drop f t H).1.cur.length=f.cur.length∧(drop f t H).1.roots=delE f.roots t∧
   (drop f t H).1.next=f.next∧(drop f t H).1.gen=f.gen∧(drop f t H).1.com=f.com∧(drop f t H).1.table=f.table∧(∀x,(drop f t H).1.nodes x=f.nodes x∨(drop f t H).1.nodes x=none):=by
 obtain⟨ur,hI⟩:=h.ic.ip;have jy:∀r∈delE f.roots t,r∈f.roots:=fun r hr=>nY hr;have Lr:IP (fM f t) ur:=⟨hI.n8,hI.n512,hI.len,⟨hI.dom.dead,hI.dom.pos⟩,hI.two,fun r hr=>hI.rb r (jy r hr),hI.kb,hI.ht⟩;obtain⟨d,hd⟩:=h.ic.root_live (aO ht);have hb:aB f t<f.cur.length:=h.ic.lt (show f.nodes (aB f t)=some d from hd);have hE:∀x,x <(fM f t).cur.length→df (fM f t) x=(one (aB f t) x:Int):=fun x hx=>by
  have h0:=h.ic.D0 x hx;have hc:=fP (f.roots.map fun r=>r.2.toNat) t x (by simpa using ht);have g1:(f.roots.map fun r=>r.2.toNat).getD t 0=aB f t:=by simp[aB,gD,ht]
  rw[g1]at hc;have e:rc (fM f t).roots x=(delE (f.roots.map fun r=>r.2.toNat) t).count x:=by
   unfold rc fM;congr 1;simp[delE,List.map_take,List.map_drop]
  unfold df at h0 ⊢;rw[e];show cu f x -((_+deg f.nodes f.cur.length x:Nat):Int)=_
  have:rc f.roots x=(f.roots.map fun r=>r.2.toNat).count x:=rfl
  omega
 obtain⟨s1,⟨g,a1,a2,a3,a4,a5,a6,a7,a8,a9,a10,a11⟩⟩:=vT (h:=H) (f:=fM f t) (g:=fM f t) (A:=fun _=>False) ⟨rfl,rfl,fun _ _=>rfl,fun _ q=>q.elim,rfl,rfl,rfl,rfl⟩ Lr hE hb (by rw[cA];exact nR _) (yM hI.ht hk);have hg:(drop f t H).1=g:=aMD a1;have h6:(drop f t H).2=0+((fF f.nodes f.cur.length:Int) -(fF g.nodes f.cur.length:Int)):=a6;have ah:g.cur.length=f.cur.length:=a4;have mz:g.roots=delE f.roots t:=a7;have ic:IC g:=a2.ic fun x hx=>by
  rw[a3 x hx];simp only[List.count_nil,List.count_cons,beq_iff_eq,one];omega
 have At:=bH f.roots t ht;have bx:∀u,g.roots.getD u (0,0)=f.roots.getD (if u<t then u else u+1) (0,0):=fun u=>by
  rw[mz,iG _ _ _ (by omega)];split<;>rfl
 have fk:∀u,aB g u=aB f (if u<t then u else u+1):=fun u=>by unfold aB;rw[bx]
 have DQ:∀u,rid g u=rid f (if u<t then u else u+1):=fun u=>by unfold rid;rw[bx]
 have Cv:∀b,co g b=co f b:=fun b=>by unfold co;rw[a8];rfl
 have lj:∀x d,(∃d,g.nodes x=some d)→f.nodes x=some d→∀c∈kids d,∃d,g.nodes c=some d:=fun x d ⟨d',hx⟩ bq c hc=>by
  have:g.nodes x=some d:=by
   rcases a5 x with q | q
   ·rw[q];exact bq
   ·rw[q]at hx;cases hx
  exact ic.kid_live this hc
 have gd:∀x,(∃d,g.nodes x=some d)→g.nodes x=f.nodes x:=fun x ⟨d',hx⟩=>by
  rcases a5 x with q | q
  ·exact q
  ·rw[q]at hx;cases hx
 rw[hg];refine⟨⟨ic,by rw[mz,At];omega,by rw[mz,At];have:=h.r16;omega,fun u hu=>?_,fun i j im hj=>?_,fun i hi=>?_,by rw[a9];exact h.nx,by rw[a10];exact h.gn,fun b xe=>by rw[Cv];exact h.cm0 b xe,fun b=>by rw[Cv];exact h.cmr b⟩,s1,by rw[h6];omega,ah,mz,a9,a10,a8,a11,a5⟩
 ·rw[mz,At]at hu
  have ed:=ic.root_live (aO (f:=g) (t:=u) (by rw[mz,At];exact hu));have Bi:∃d,g.nodes (aB g u)=some d:=ed;rw[fk]at Bi ⊢;obtain⟨h',k1,k2⟩:=h.ok (if u<t then u else u+1) (by split<;>omega);refine⟨h',Ok.frame lj gd _ _ _ _ Bi k1,?_⟩;rcases k2 with k2 | k2
  ·exact .inl k2
  ·refine .inr ?_
   unfold sz at k2 ⊢;rw[gd _ Bi];exact k2
 ·rw[mz,At]at hj
  rw[DQ,DQ];by_cases q:i<t
  ·rw[if_pos q]
   by_cases q':j<t
   ·rw[if_pos q'];exact h.ids i j im (by omega)
   ·rw[if_neg q'];exact h.ids i _ (by omega) (by omega)
  ·rw[if_neg q,if_neg (by omega)];exact h.ids _ _ (by omega) (by omega)
 ·rw[mz,At]at hi
  rw[DQ,a9];exact h.idb _ (by split<;>omega)
def mH(nodes:Nat→Option Nd)(b:Nat):List E3:=((nodes b).getD (0,[])).2
theorem dF(h:nodes b=some d):mH nodes b=d.2:=by simp[mH,h]
def bJ(nodes:Nat→Option Nd):Nat→Nat→List (ByteArray×ByteArray)
 | 0,b=>(mH nodes b).map fun e=>(e.1,e.2.1)
 | h+1,b=>(mH nodes b).flatMap fun e=>bJ nodes h (ch e)
def find(nodes:Nat→Option Nd):Nat→Nat→ByteArray→OB
 | 0,b,key=>if fD (mH nodes b) key=true then some ((mH nodes b).getD (cLt (mH nodes b) key) e0).2.1 else none
 | h+1,b,key=>find nodes h (kd (mH nodes b) (bK (mH nodes b) key)) key
def eV(l:List (ByteArray×ByteArray))(key:ByteArray):OB:=(l.find? fun p=>p.1.toList == key.toList).map fun p=>p.2
theorem eI:∀{h b:Nat} {lo hi:OB},Ok nodes h b lo hi→∀p∈bJ nodes h b,loR lo p.1∧hiR hi p.1
 | 0,b,lo,hi,hk,p,hp=>by
  obtain⟨es,e1,e2,_⟩:=hk;simp only[bJ,dF e1,List.mem_map]at hp;obtain⟨e,he,rfl⟩:=hp;obtain⟨j,hj,rfl⟩:=cY he;exact⟨e2.lo j hj,e2.hi j hj⟩
 | h+1,b,lo,hi,hk,p,hp=>by
  obtain⟨es,e1,e2,_,_,e5⟩:=hk;simp only[bJ,dF e1,List.mem_flatMap]at hp;obtain⟨e,he,hp⟩:=hp;obtain⟨j,hj,rfl⟩:=cY he;obtain⟨g1,g2⟩:=eI (e5 j hj).2 p hp;constructor
  ·cases lo with
   | none=>trivial
   | some l=>exact gL (e2.lo j hj) g1
  ·by_cases q:j+1<es.length
   ·rw[cL _ q]at g2;exact rV g2 (e2.hi _ q)
   ·rw[eN _ q]at g2;exact g2
theorem iX(h:∀p∈l,p.1≠key):eV (l++m) key=eV m key:=by
 unfold eV;rw[List.find?_append];have:l.find? (fun p=>p.1.toList == key.toList)=none:=List.find?_eq_none.2 fun p hp q=>h p hp (gR (by simpa using q));rw[this];rfl
theorem sH(h:∀p∈l,p.1≠key):eV l key=none:=by
 unfold eV;have:l.find? (fun p=>p.1.toList == key.toList)=none:=List.find?_eq_none.2 fun p hp q=>h p hp (gR (by simpa using q));rw[this];rfl
theorem nV(h:∀p∈m,p.1≠key):eV (l++m) key=eV l key:=by
 cases e:eV l key with
 | none=>
  have:eV (l++m) key=eV m key:=by
   unfold eV at e ⊢;rw[List.find?_append];have e':l.find? (fun p=>p.1.toList == key.toList)=none:=by simpa using e
   rw[e'];rfl
  rw[this];exact sH h
 | some v=>
  unfold eV at e ⊢;rw[List.find?_append];cases e':l.find? (fun p=>p.1.toList == key.toList)with
  | none=>rw[e']at e;cases e
  | some p=>rw[e']at e;rw[Option.some_or];exact e
theorem mI{α:Type}(es:List E3)(g:E3→List α)(hi:i<es.length):es.flatMap g=(es.take i).flatMap g++(g (es.getD i e0)++(es.drop (i+1)).flatMap g):=by
 have:es=es.take i++(es.getD i e0 :: es.drop (i+1)):=by
  have h2:es.drop i=es.getD i e0 :: es.drop (i+1):=by
   rw[gD,gE hi];exact List.drop_eq_getElem_cons hi
  rw[←h2,List.take_append_drop]
 conv=>lhs;rw[this]
 rw[List.flatMap_append,List.flatMap_cons]
theorem rN{key:ByteArray}:∀{h b:Nat} {lo hi:OB},Ok nodes h b lo hi→find nodes h b key=eV (bJ nodes h b) key
 | 0,b,lo,hi,hk=>by
  obtain⟨es,e1,e2,_⟩:=hk;simp only[find,bJ,dF e1];by_cases hh:fD es key=true
  ·rw[if_pos hh]
   obtain⟨k1,k2⟩:=(dJ es key).1 hh;generalize cLt es key=i at *;have kw:es.map (fun e=>(e.1,e.2.1))=(es.take i).map (fun e=>(e.1,e.2.1))++((es.getD i e0).1,(es.getD i e0).2.1) ::(es.drop (i+1)).map (fun e=>(e.1,e.2.1)):=by
    have h2:es.drop i=es.getD i e0 :: es.drop (i+1):=by
     rw[gD,gE k1];exact List.drop_eq_getElem_cons k1
    rw[←List.map_cons (f:=fun e:E3=>(e.1,e.2.1)),←h2,←List.map_append,List.take_append_drop]
   rw[kw,iX]
   ·unfold eV
    have:((es.getD i e0).1.toList == key.toList)=true:=by rw[show(es.getD i e0).1=key from k2];simp
    rw[List.find?_cons_of_pos (p:=fun p:ByteArray×ByteArray=>p.1.toList == key.toList) (a:=((es.getD i e0).1,(es.getD i e0).2.1)) this];rfl
   ·intro p hp q
    obtain⟨e,he,rfl⟩:=List.mem_map.1 hp;obtain⟨j,hj,rfl⟩:=List.mem_take_iff_getElem.1 he;have:=e2.srt j i (by omega) k1;have e3:ky es j=es[j].1:=by unfold ky;rw[gD,gE (by omega)];rfl
    rw[k2,e3,q,eD]at this;cases this
  ·rw[if_neg hh]
   refine(sH fun p hp q=>?_).symm;obtain⟨e,he,rfl⟩:=List.mem_map.1 hp;obtain⟨j,hj,rfl⟩:=cY he;exact hh (jT e2.srt hj q).1
 | h+1,b,lo,hi,hk=>by
  obtain⟨es,e1,e2,e3,e4,e5⟩:=hk;simp only[find,bJ,dF e1];have ew:=eE key e3;have ih:=rN (key:=key) (e5 _ ew).2;rw[ih,mI es _ ew];have bad:∀j,j<es.length→j≠bK es key→∀p∈bJ nodes h (kd es j),p.1≠key:=fun j hj av p hp q=>by
   obtain⟨g1,g2⟩:=eI (e5 j hj).2 p hp;rw[q]at g1 g2;exact av (aCH e2.srt key hj g1 fun q'=>by rw[cL _ q']at g2;exact g2).symm
  rw[iX,nV]
  ·rfl
  ·intro p hp
   obtain⟨e,he,hp⟩:=List.mem_flatMap.1 hp;obtain⟨j,hj,rfl⟩:=List.mem_drop_iff_getElem.1 he;have:es[bK es key+1+j]=es.getD (bK es key+1+j) e0:=by rw[gD,gE (by omega)];rfl
   rw[this]at hp;exact bad _ (by omega) (by omega) p hp
  ·intro p hp
   obtain⟨e,he,hp⟩:=List.mem_flatMap.1 hp;obtain⟨j,hj,rfl⟩:=List.mem_take_iff_getElem.1 he;have:es[j]=es.getD j e0:=by rw[gD,gE (by omega)];rfl
   rw[this]at hp;exact bad _ (by omega) (by omega) p hp
theorem kQ{v:ByteArray}:∀{h b:Nat} {lo hi:OB},Ok nodes h b lo hi→find nodes h b key=some v→Mem nodes h b key
 | 0,b,lo,hi,hk,hf=>by
  obtain⟨es,e1,e2,_⟩:=hk;simp only[find,dF e1]at hf;by_cases hh:fD es key=true
  ·obtain⟨k1,k2⟩:=(dJ es key).1 hh
   exact⟨es,e1,_,k1,k2⟩
  ·rw[if_neg hh]at hf;cases hf
 | h+1,b,lo,hi,hk,hf=>by
  obtain⟨es,e1,e2,e3,e4,e5⟩:=hk;simp only[find,dF e1]at hf;have ew:=eE key e3;exact⟨es,e1,_,ew,kQ (e5 _ ew).2 hf⟩
theorem nM:∀{h b:Nat} {lo hi:OB},Ok nodes h b lo hi→(bJ nodes h b).Pairwise fun p q=>kl p.1 q.1=true
 | 0,b,lo,hi,hk=>by
  obtain⟨es,e1,e2,_⟩:=hk;simp only[bJ,dF e1];rw[List.pairwise_map];rw[List.pairwise_iff_getElem];intro i j hi hj im;have:=e2.srt i j im hj;have g:∀i (h:i<es.length),ky es i=es[i].1:=fun i h=>by unfold ky;rw[gD,gE h];rfl
  rw[g i hi,g j hj]at this;exact this
 | h+1,b,lo,hi,hk=>by
  obtain⟨es,e1,e2,e3,e4,e5⟩:=hk;simp only[bJ,dF e1];rw[List.pairwise_flatMap];have g:∀i (h:i<es.length),es[i]=es.getD i e0:=fun i h=>by rw[gD,gE h];rfl
  refine⟨fun e he=>?_,?_⟩
  ·obtain⟨j,hj,rfl⟩:=cY he
   exact nM (e5 j hj).2
  ·rw[List.pairwise_iff_getElem]
   intro i j hi hj im p hp q hq;rw[g i hi]at hp;rw[g j hj]at hq;have a:=(eI (e5 i hi).2 p hp).2;have b':=(eI (e5 j hj).2 q hq).1;rw[cL _ (by omega)]at a;have a':kl p.1 (ky es (i+1))=true:=a;have b'':kl q.1 (ky es j)=false:=b';by_cases e:i+1=j
   ·rw[e]at a';exact kV a' b''
   ·exact kV (kH a' (e2.srt (i+1) j (by omega) hj)) b''
theorem Mem.frame_iff{U:Nat→Prop}(hU:∀x d,U x→nodes x=some d→∀c∈kids d,U c)(he:∀x,U x→nodes' x=nodes x)(hb:U b):Mem nodes h b key↔Mem nodes' h b key:=
 ⟨Mem.frame hU he h b hb,Mem.frame (fun x d hx hd c hc=>hU x d hx (by rw[←he x hx];exact hd) c hc) (fun x hx=>(he x hx).symm) h b hb⟩
theorem kL.iff(hf:∀c∈kids d,∀h',Mem nodes h' c key↔Mem nodes' h' c key):kL nodes h d key↔kL nodes' h d key:=by
 obtain⟨k,es⟩:=d;cases h with
 | zero=>exact Iff.rfl
 | succ h=>
  constructor
  ·rintro⟨e1,e,he,e2⟩;simp only at e1 he;subst e1;exact⟨rfl,e,he,(hf _ (aV.2 ⟨e,he,rfl⟩) h).1 e2⟩
  ·rintro⟨e1,e,he,e2⟩;simp only at e1 he;subst e1;exact⟨rfl,e,he,(hf _ (aV.2 ⟨e,he,rfl⟩) h).2 e2⟩
theorem kL.cut(m:Nat):kL nodes h (k,es) key↔kL nodes h (k,es.take m) key∨kL nodes h (k,es.drop m) key:=by
 have jy:∀e,e∈es↔e∈es.take m∨e∈es.drop m:=fun e=>by rw[←List.mem_append,List.take_append_drop]
 cases h with
 | zero=>
  constructor
  ·rintro⟨e1,e,he,e2⟩
   rcases(jy e).1 he with q | q
   ·exact .inl ⟨e1,e,q,e2⟩
   ·exact .inr ⟨e1,e,q,e2⟩
  ·rintro(⟨e1,e,he,e2⟩ | ⟨e1,e,he,e2⟩)
   ·exact⟨e1,e,(jy e).2 (.inl he),e2⟩
   ·exact⟨e1,e,(jy e).2 (.inr he),e2⟩
 | succ h=>
  constructor
  ·rintro⟨e1,e,he,e2⟩
   rcases(jy e).1 he with q | q
   ·exact .inl ⟨e1,e,q,e2⟩
   ·exact .inr ⟨e1,e,q,e2⟩
  ·rintro(⟨e1,e,he,e2⟩ | ⟨e1,e,he,e2⟩)
   ·exact⟨e1,e,(jy e).2 (.inl he),e2⟩
   ·exact⟨e1,e,(jy e).2 (.inr he),e2⟩
theorem Wk.lowKey_mem(w:Wk f t H)(p:aN f t H P b (h+1) lo hi)(af:f.nodes b=some (2,es))(key key':ByteArray):
  Mem f.nodes (h+1) b key'↔Mem (setN f b (2,lowK es key)).nodes (h+1) b key':=by
 obtain⟨_,q1,_,av⟩:=p.inner w;rw[af]at q1;cases q1;have y9:(setN f b (2,lowK es key)).nodes b=some (2,lowK es key):=aD _ _ _;obtain⟨U,lj,gd,hU⟩:=p.cl w.ic w.tl af (nodes':=(setN f b (2,lowK es key)).nodes) (fun _=>False) (fun _ q=>q.elim) (fun x d hx ut _=>by show upd _ _ _ x=_;rw[aC _ _ ut];exact hx);have hk:∀j,j<es.length→(Mem f.nodes h (kd es j) key'↔Mem (setN f b (2,lowK es key)).nodes h (kd es j) key'):=fun j hj=>by
  obtain⟨d,hd⟩:=w.ic.kid_live af (aP hj);exact Mem.frame_iff lj gd (hU _ d hd (p.kid_off w.ic af (aP hj)) id)
 have iw:∀j,kd (lowK es key) j=kd es j:=fun j=>by unfold kd ch;rw[(zB es key j av).1]
 constructor
 ·rintro⟨es',e1,j,hj,e2⟩
  rw[af]at e1;cases e1;exact⟨_,y9,j,by rw[cK];exact hj,by rw[iw];exact(hk j hj).1 e2⟩
 ·rintro⟨es',e1,j,hj,e2⟩
  rw[y9]at e1;cases e1;rw[cK]at hj;rw[iw]at e2;exact⟨es,af,j,hj,(hk j hj).2 e2⟩
theorem Wk.shadow_mem(w:Wk f t H)(p:aN f t H P b (h+1) lo hi)(af:f.nodes b=some (2,es))(am:i<es.length)(hs:shadow f (.ent b i)=some (g,c))(key:ByteArray)(h':Nat):
  Mem f.nodes h' (kd es i) key↔Mem g.nodes h' c key:=by
 have gk:look f b=(2,es):=aE af;have hg:bI f (.ent b i)=kd es i:=by simp only[bI,gk];rfl
 unfold shadow at hs;rw[hg]at hs;by_cases ho:own f (kd es i)
 ·rw[if_pos ho]at hs;cases hs;exact Iff.rfl
 ·rw[if_neg ho]at hs
  by_cases hl:aF f=0
  ·rw[if_pos hl]at hs;cases hs
  ·rw[if_neg hl]at hs;cases hs
   obtain⟨gp,ml,hc,_⟩:=aR hl;generalize aF f=q at *;obtain⟨d,hd⟩:=w.ic.kid_live af (aP am);have hL:dR f (.ent b i):=⟨w.ic.lt af,es,af,am⟩;obtain⟨I1,I2,I3,I4,I5⟩:=w.ic.shadow hL hg hd gp ml hc;have de:f.nodes q=none:=(w.ic.dom.dead q).2 hc;have fh:=aP am;have AF:kd es i≠q:=fun e=>by rw[e,de]at hd;cases hd
   have mi:b≠q:=fun e=>by rw[e,de]at af;cases af
   have AV:=w.ic.not_self hd;have nq:(shadowAt f (.ent b i) q).nodes q=some d:=by
    rw[I2];unfold shN cpN;simp only;split
    ·rw[aC _ _ (Ne.symm AF),aC _ _ (Ne.symm mi),aD]
    ·rw[aC _ _ (Ne.symm mi),aD]
   have nx:∀x,x≠b→x≠q→¬(x=kd es i∧cu f (kd es i)=1)→(shadowAt f (.ent b i) q).nodes x=f.nodes x:=fun x h1 h2 h3=>by
    rw[I2];unfold shN cpN;simp only;split
    ·rename_i nk
     rw[aC _ _ (fun e=>h3 ⟨e,nk⟩),aC _ _ h1,aC _ _ h2]
    ·rw[aC _ _ h1,aC _ _ h2]
   have ed:∀{x:Nat} {d':Nd},f.nodes x=some d'→x≠q:=fun hx e=>by rw[e,de]at hx;cases hx
   obtain⟨U,lj,gd,hU⟩:=p.cl w.ic w.tl af (nodes':=(shadowAt f (.ent b i) q).nodes) (fun x=>x=kd es i∧cu f (kd es i)=1) (fun x ⟨q1,q2⟩=>⟨by rw[q1];exact q2,by rw[q1];exact fh⟩) (fun x d hx ut Ad=>by rw[nx x ut (ed hx) Ad];exact hx);rw[bO nq,bO hd];refine kL.iff fun c bj U4=>?_;obtain⟨dc,jd⟩:=w.ic.kid_live hd bj;exact Mem.frame_iff lj gd (hU c dc jd (p.kid2_off w.ic af fh hd bj).1 fun q'=>AV (q'.1▸bj))
theorem Wk.split_mem(w:Wk f t H)(p:aN f t H P b (h+1) lo hi)(af:f.nodes b=some (2,es))(am:i<es.length){ces:List E3}(hd:f.nodes (kd es i)=some (k,ces))(h1:cu f (kd es i)=1)
  {m q:Nat} (ml:q<f.cur.length) (hc:cu f q=0) (hm:2≤m) (gy:m+2≤ces.length) (gp:2≤q) (key:ByteArray):
  let f':=splitF f b es i (kd es i) k ces m q (ky ces m)
  Mem f.nodes h (kd es i) key↔Mem f'.nodes h (kd es i) key∨Mem f'.nodes h q key:=by
 intro f';obtain⟨I1,I2⟩:=w.ic.split (key:=ky ces m) (m:=m) af am (rfl:kd es i=_) hd (by omega) (by omega) gp ml hc;have de:f.nodes q=none:=(w.ic.dom.dead q).2 hc;have fh:=aP am;have pp:kd es i≠b:=fun e=>w.ic.not_self af (by rw[←e];exact fh);have AF:kd es i≠q:=fun e=>by rw[e,de]at hd;cases hd
 have mi:b≠q:=fun e=>by rw[e,de]at af;cases af
 have AV:=w.ic.not_self hd;have nq:f'.nodes q=some (k,ces.drop m):=by rw[I2,aC _ _ (Ne.symm mi),aD]
 have nc:f'.nodes (kd es i)=some (k,ces.take m):=by rw[I2,aC _ _ pp,aC _ _ AF,aD]
 have nx:∀x,x≠b→x≠q→x≠kd es i→f'.nodes x=f.nodes x:=fun x h1 h2 h3=>by rw[I2,aC _ _ h1,aC _ _ h2,aC _ _ h3]
 have ed:∀{x:Nat} {d':Nd},f.nodes x=some d'→x≠q:=fun hx e=>by rw[e,de]at hx;cases hx
 obtain⟨U,lj,gd,hU⟩:=p.cl w.ic w.tl af (nodes':=f'.nodes) (fun x=>x=kd es i) (fun x q1=>by rw[q1];exact⟨h1,fh⟩) (fun x d hx ut Ad=>by rw[nx x ut (ed hx) Ad];exact hx);have hk:∀c∈kids (k,ces),∀h',Mem f.nodes h' c key↔Mem f'.nodes h' c key:=fun c bj h'=>by
  obtain⟨dc,jd⟩:=w.ic.kid_live hd bj;exact Mem.frame_iff lj gd (hU c dc jd (p.kid2_off w.ic af fh hd bj).1 fun q'=>AV (q'▸bj))
 rw[bO nq,bO nc,bO hd,kL.iff hk,kL.cut m]
theorem Wk.stepDown_mem(w:Wk f t H)(p:aN f t H P b (h+1) lo hi)(hl:loR lo key)(h5:sz f.nodes b<5)(hs:Fo.stepDown f b key=some (g,c)):
  Mem f.nodes (h+1) b key↔Mem g.nodes h c key:=by
 obtain⟨es,af,qg,av⟩:=p.inner w;have hz:es.length<5:=by unfold sz at h5;rw[af]at h5;exact h5
 obtain⟨w1,p1,r1⟩:=w.lowKey p af key hl;have k1:=w.lowKey_mem p af key key;unfold Fo.stepDown at hs;rw[aE af]at hs;simp only at hs;generalize hK:lowK es key=es1 at *;have ep:(setN f b (2,es1)).nodes b=some (2,es1):=aD _ _ _;have d8:es1.length=es.length:=by rw[←hK];exact cK es key
 have lv:es1≠[]:=fun e=>av (List.length_eq_zero_iff.1 (by rw[←d8,e];rfl));have ew:bK es1 key<es1.length:=eE key lv;have k2:Mem (setN f b (2,es1)).nodes (h+1) b key↔Mem (setN f b (2,es1)).nodes h (kd es1 (bK es1 key)) key:=⟨fun hm=>Mem.at ep (p1.ok w1.ok).1 hm,fun hm=>⟨es1,ep,_,ew,hm⟩⟩;generalize bK es1 key=i at *;cases al:shadow (setN f b (2,es1)) (.ent b i)with
 | none=>rw[al]at hs;cases hs
 | some gc=>
  obtain⟨g1,c1⟩:=gc;rw[al]at hs;simp only at hs;obtain⟨w2,p2,p3,⟨es2,m1,m2,m3,m4⟩,m5,m6,m7,m8,m9⟩:=w1.shadow_ent p1 ep ew al;have k3:=w1.shadow_mem p1 ep ew al key h;obtain⟨⟨k,ces⟩,hd⟩:=w2.ic.live (x:=c1) (by rw[m6];omega);rw[aE hd]at hs;simp only at hs;by_cases hfull:ces.length=5
  ·rw[if_pos hfull]at hs
   by_cases hlw:aF g1=0
   ·rw[if_pos hlw]at hs;cases hs
   ·rw[if_neg hlw,aE m1]at hs
    simp only at hs
    obtain⟨l1,l2,l3,l4⟩:=aR hlw;have yh:i<es2.length:=by rw[m2];exact ew
    obtain⟨w4,p4,p5,p6,n1,n2,n3,n4⟩:=w2.split p2 m1 (by rw[m2,d8];exact hz) yh (by rw[m4];exact hd) (by rw[m4];exact m6) (m:=3) (by omega) (by omega) l1 l2 l3;have k4:=w2.split_mem p2 m1 yh (by rw[m4];exact hd) (by rw[m4];exact m6) (m:=3) l2 l3 (by omega) (by omega) l1 key;rw[m4]at w4 p4 p5 p6 n1 n2 n3 n4 k4;simp only[sJ,Prod.mk.injEq]at hs;obtain⟨rfl,rfl⟩:=hs;simp only at k4;rw[k1,k2,k3,k4];by_cases mx:kl key (ky ces 3)=true
    ·rw[if_pos mx]
     refine⟨fun q=>q.resolve_right fun q=>?_,.inl⟩;have b1:=(Mem.bounds (p6.ok w4.ok).1 q).1;have b2:kl key (ky ces 3)=false:=b1;rw[mx]at b2;cases b2
    ·rw[if_neg mx]
     refine⟨fun q=>q.resolve_left fun q=>?_,.inr⟩;have b1:=(Mem.bounds (p5.ok w4.ok).1 q).2;exact mx b1
  ·rw[if_neg hfull]at hs
   simp only[sJ,Prod.mk.injEq]at hs;obtain⟨rfl,rfl⟩:=hs;rw[k1,k2,k3]
theorem kZ:∀{h:Nat} {f:fZ} (w:Wk f t H) {P:List Nat} {b:Nat} {lo hi:OB} (p:aN f t H P b h lo hi) (hl:loR lo key) (hh:hiR hi key) (h5:sz f.nodes b<5) {g:fZ} {th:Bool} (hs:putAt h f b key val=some (g,th)),
  th=true↔Mem f.nodes h b key
 | 0,f,w,P,b,lo,hi,p,hl,hh,h5,g,th,hs=>by
  obtain⟨es,af,hn,hc⟩:=p.leaf w;unfold putAt at hs;rw[aE af]at hs;simp only[sJ,Prod.mk.injEq]at hs;obtain⟨_,rfl⟩:=hs;constructor
  ·intro q
   obtain⟨k1,k2⟩:=(dJ es key).1 q;exact⟨es,af,_,k1,k2⟩
  ·rintro⟨es',e1,j,hj,e2⟩
   rw[af]at e1;cases e1;exact(jT hn.srt hj e2).1
 | h+1,f,w,P,b,lo,hi,p,hl,hh,h5,g,th,hs=>by
  unfold putAt at hs;cases mm:stepDown f b key with
  | none=>rw[mm]at hs;cases hs
  | some gc=>
   obtain⟨g1,c1⟩:=gc;rw[mm]at hs;obtain⟨P',lo',am,w1,p1,l1,l2,l3,l4,l5⟩:=w.stepDown p hl hh h5 mm;rw[w.stepDown_mem p hl h5 mm];exact kZ w1 p1 l1 l2 l3 hs
theorem Wk.shadow_root_mem(w:Wk f t H){r:Nat}(hs:shadow f (.root t)=some (g,r))(key:ByteArray)(h:Nat):Mem f.nodes h (aB f t) key↔Mem g.nodes h r key:=by
 obtain⟨w1,p1,a1,a2,a3,a4,a5,a6⟩:=w.shadow_root hs;unfold shadow at hs;have hg:bI f (.root t)=aB f t:=rfl;rw[hg]at hs;by_cases ho:own f (aB f t)
 ·rw[if_pos ho]at hs;cases hs;exact Iff.rfl
 ·rw[if_neg ho]at hs
  by_cases hl:aF f=0
  ·rw[if_pos hl]at hs;cases hs
  ·rw[if_neg hl]at hs
   simp only[sJ,Prod.mk.injEq]at hs;obtain⟨g9,yf⟩:=hs;obtain⟨l1,l2,l3,_⟩:=aR hl;obtain⟨d,hd⟩:=w.ic.root_live (aO w.tl);have fy:f.nodes (aB f t)=some d:=hd;obtain⟨I1,I2,_⟩:=w.ic.shadow (L:=.root t) w.tl rfl hd l1 l2 l3;have de:f.nodes (aF f)=none:=(w.ic.dom.dead _).2 l3;have vq:g.nodes=if cu f (aB f t)=1 then upd (upd f.nodes (aF f) (some d)) (aB f t) none else upd f.nodes (aF f) (some d):=by rw[←g9];exact I2
   let U:Nat→Prop:=fun x=>(∃d,f.nodes x=some d)∧(cu f (aB f t)=1→x≠aB f t)
   have lj:∀x d,U x→f.nodes x=some d→∀c∈kids d,U c:=fun x d' _ hx c bj=>
    ⟨w.ic.kid_live hx bj,fun h1 e=>(w.ic.onlyRoot (aO w.tl) h1).2 x d' hx (by have:c=(f.roots.getD t (0,0)).2.toNat:=e;rw[←this];exact bj)⟩
   have gd:∀x,U x→g.nodes x=f.nodes x:=fun x ⟨⟨d',hx⟩,h1⟩=>by
    have Bz:x≠aF f:=fun e=>by rw[e,de]at hx;cases hx
    rw[vq];split
    ·rename_i nk;rw[aC _ _ (h1 nk),aC _ _ Bz]
    ·rw[aC _ _ Bz]
   have nr:g.nodes r=some d:=by rw[a2];exact fy
   rw[bO nr,bO fy];exact kL.iff fun c bj h'=>Mem.frame_iff lj gd ⟨w.ic.kid_live fy bj,fun _ e=>w.ic.not_self fy (e▸bj)⟩
theorem Wk.grow_mem(w:Wk f t H)(h1:cu f (aB f t)=1)(hd:f.nodes (aB f t)=some (k,es)){m q top:Nat}(hm:2≤m)(gy:m+2≤es.length)
  (gp:2≤q) (ml:q<f.cur.length) (hq:cu f q=0) (Aa:2≤top) (DR:top<f.cur.length) (qw:cu f top=0) (su:top≠q) (key:ByteArray):
  let f':=growF f t (aB f t) k es m q top (ky es 0) (ky es m)
  Mem f.nodes H (aB f t) key↔Mem f'.nodes (H+1) top key:=by
 intro f';obtain⟨I1,I2⟩:=w.ic.grow (t:=t) (r:=aB f t) (m:=m) (ky es 0) (ky es m) w.tl rfl hd (by omega) (by omega) gp ml hq Aa DR qw su;have de:f.nodes q=none:=(w.ic.dom.dead q).2 hq;have FG:f.nodes top=none:=(w.ic.dom.dead top).2 qw;have KJ:aB f t≠q:=fun e=>by rw[e,de]at hd;cases hd
 have er:aB f t≠top:=fun e=>by rw[e,FG]at hd;cases hd
 have ho:=w.ic.onlyRoot (aO w.tl) h1;have ntop:f'.nodes top=some (2,[(ky es 0,.empty,(aB f t:Int)),(ky es m,.empty,(q:Int))]):=by rw[I2,aD]
 have nq:f'.nodes q=some (k,es.drop m):=by rw[I2,aC _ _ (Ne.symm su),aD]
 have nr:f'.nodes (aB f t)=some (k,es.take m):=by rw[I2,aC _ _ er,aC _ _ KJ];exact aD _ _ _
 let U:Nat→Prop:=fun x=>(∃d,f.nodes x=some d)∧x≠aB f t
 have lj:∀x d,U x→f.nodes x=some d→∀c∈kids d,U c:=fun x d' _ hx c bj=>
  ⟨w.ic.kid_live hx bj,fun e=>ho.2 x d' hx (by have:c=(f.roots.getD t (0,0)).2.toNat:=e;rw[←this];exact bj)⟩
 have gd:∀x,U x→f'.nodes x=f.nodes x:=fun x ⟨⟨d',hx⟩,h1⟩=>by
  have Bz:x≠q:=fun e=>by rw[e,de]at hx;cases hx
  have R2:x≠top:=fun e=>by rw[e,FG]at hx;cases hx
  rw[I2,aC _ _ R2,aC _ _ Bz];exact aC _ _ h1
 have hk:∀c∈kids (k,es),∀h',Mem f.nodes h' c key↔Mem f'.nodes h' c key:=fun c bj h'=>
  Mem.frame_iff lj gd ⟨w.ic.kid_live hd bj,fun e=>w.ic.not_self hd (e▸bj)⟩
 have e1:ch (ky es 0,.empty,(aB f t:Int))=aB f t:=by simp[ch]
 have e2:ch (ky es m,.empty,(q:Int))=q:=by simp[ch]
 rw[bO hd,kL.iff hk,kL.cut m,←bO nr,←bO nq,bO ntop];constructor
 ·rintro(q' | q')
  ·exact⟨rfl,_,List.mem_cons_self,by rw[e1];exact q'⟩
  ·exact⟨rfl,_,List.mem_cons_of_mem _ List.mem_cons_self,by rw[e2];exact q'⟩
 ·rintro⟨_,e,he,q'⟩
  simp only[List.mem_cons,List.not_mem_nil,or_false]at he;rcases he with rfl | rfl
  ·rw[e1]at q';exact .inl q'
  ·rw[e2]at q';exact .inr q'
theorem aEJ(w:Wk f t H){th:Bool}(hs:put f t H key val=some (g,th)):th=true↔Mem f.nodes H (aB f t) key:=by
 unfold put at hs;cases al:shadow f (.root t)with
 | none=>rw[al]at hs;cases hs
 | some gr=>
  obtain⟨g1,r1⟩:=gr;rw[al]at hs;simp only at hs;obtain⟨w1,p1,a1,a2,a3,a4,a5,a6⟩:=w.shadow_root al;rw[w.shadow_root_mem al];obtain⟨⟨k,es⟩,hd⟩:=w1.ic.live (x:=r1) (by rw[a3];omega);have au:es.length≤5:=by
   obtain⟨d',d1,_,d2,_⟩:=((p1.ok w1.ok).1).sz_pos;rw[hd]at d1;cases d1;exact d2
  rw[aE hd]at hs;simp only at hs;by_cases hfull:es.length=5
  ·rw[if_pos hfull]at hs
   cases bm:bM g1 t r1 with
   | none=>rw[bm]at hs;cases hs
   | some kt=>
    obtain⟨g2,top⟩:=kt;rw[bm]at hs;simp only at hs;unfold bM at bm;rw[aE hd]at bm;simp only at bm;by_cases pf:aF g1=0
    ·rw[if_pos pf]at bm;cases bm
    ·rw[if_neg pf]at bm
     generalize hT:aF (takeAt (setN g1 r1 (k,es.take 3)) (aF g1) (k,es.drop 3))=tp at *;by_cases d8:tp=0
     ·rw[if_pos d8]at bm;cases bm
     ·rw[if_neg d8]at bm
      simp only[sJ,Prod.mk.injEq]at bm;obtain⟨rfl,rfl⟩:=bm;obtain⟨l1,l2,l3,l4⟩:=aR pf;obtain⟨m1,m2,m3,m4⟩:=aR (hT▸d8);rw[hT]at m1 m2 m3;have nk:∀x,cu (takeAt (setN g1 r1 (k,es.take 3)) (aF g1) (k,es.drop 3)) x=if aF g1=x then 1 else cu g1 x:=fun x=>dT (f:=setN g1 r1 (k,es.take 3)) (k,es.drop 3) l2 x;rw[nk]at m3;have su:tp≠aF g1:=fun e=>by rw[if_pos e.symm]at m3;omega
      rw[if_neg (Ne.symm su)]at m3;have m2':tp<g1.cur.length:=by simpa [takeAt,setN] using m2
      subst a1;obtain⟨w2,p2,b1,b2,b3⟩:=w1.grow a3 hd (m:=3) (by omega) (by omega) l1 l2 l3 m1 m2' m3 su;refine Iff.trans ?_ (w1.grow_mem a3 hd (m:=3) (by omega) (by omega) l1 l2 l3 m1 m2' m3 su key).symm;exact kZ w2 p2 trivial trivial (by unfold sz;rw[b3];simp) hs
  ·rw[if_neg hfull]at hs
   exact kZ w1 p1 trivial trivial (by unfold sz;rw[hd];simp only;omega) hs
