import Derived.Test.YtaahkgkdpnnhhaaGreatFo20
set_option linter.all false
namespace Go.Proofs.YtaahkgkdpnnhhaaGreat.Fo
def mN(nodes:Nat→Option Nd)(b:Nat):List E3:=((nodes b).getD (0,[])).2
theorem dN{nodes:Nat→Option Nd}{b:Nat}{d:Nd}(h:nodes b=some d):mN nodes b=d.2:=by simp[mN,h]
def bU(nodes:Nat→Option Nd):Nat→Nat→List (ByteArray×ByteArray)
 | 0,b=>(mN nodes b).map fun e=>(e.1,e.2.1)
 | h+1,b=>(mN nodes b).flatMap fun e=>bU nodes h (ch e)
def find(nodes:Nat→Option Nd):Nat→Nat→ByteArray→OB
 | 0,b,key=>if fG (mN nodes b) key=true then some ((mN nodes b).getD (cLt (mN nodes b) key) e0).2.1 else none
 | h+1,b,key=>find nodes h (kd (mN nodes b) (bK (mN nodes b) key)) key
def eW(l:List (ByteArray×ByteArray))(key:ByteArray):OB:=(l.find? fun p=>p.1.toList == key.toList).map fun p=>p.2
theorem eK{nodes:Nat→Option Nd}:∀{h b:Nat} {lo hi:OB},Ok nodes h b lo hi→∀p∈bU nodes h b,loR lo p.1∧hiR hi p.1
 | 0,b,lo,hi,hk,p,hp=>by
  obtain⟨es,e1,e2,_⟩:=hk;simp only[bU,dN e1,List.mem_map]at hp;obtain⟨e,he,rfl⟩:=hp;obtain⟨j,hj,rfl⟩:=dP he;exact⟨e2.lo j hj,e2.hi j hj⟩
 | h+1,b,lo,hi,hk,p,hp=>by
  obtain⟨es,e1,e2,_,_,e5⟩:=hk;simp only[bU,dN e1,List.mem_flatMap]at hp;obtain⟨e,he,hp⟩:=hp;obtain⟨j,hj,rfl⟩:=dP he;obtain⟨g1,g2⟩:=eK (e5 j hj).2 p hp;constructor
  ·cases lo with
   | none=>trivial
   | some l=>exact gN (e2.lo j hj) g1
  ·by_cases q:j+1<es.length
   ·rw[cI _ q]at g2;exact sT g2 (e2.hi _ q)
   ·rw[eN _ q]at g2;exact g2
theorem iX{l m:List (ByteArray×ByteArray)}{key:ByteArray}(h:∀p∈l,p.1≠key):eW (l++m) key=eW m key:=by
 unfold eW;rw[List.find?_append];have:l.find? (fun p=>p.1.toList == key.toList)=none:=List.find?_eq_none.2 fun p hp q=>h p hp (gP (by simpa using q));rw[this];rfl
theorem tO{l:List (ByteArray×ByteArray)}{key:ByteArray}(h:∀p∈l,p.1≠key):eW l key=none:=by
 unfold eW;have:l.find? (fun p=>p.1.toList == key.toList)=none:=List.find?_eq_none.2 fun p hp q=>h p hp (gP (by simpa using q));rw[this];rfl
theorem nL{l m:List (ByteArray×ByteArray)}{key:ByteArray}(h:∀p∈m,p.1≠key):eW (l++m) key=eW l key:=by
 cases e:eW l key with
 | none=>
  have:eW (l++m) key=eW m key:=by
   unfold eW at e ⊢;rw[List.find?_append];have e':l.find? (fun p=>p.1.toList == key.toList)=none:=by simpa using e
   rw[e'];rfl
  rw[this];exact tO h
 | some v=>
  unfold eW at e ⊢;rw[List.find?_append];cases e':l.find? (fun p=>p.1.toList == key.toList)with
  | none=>rw[e']at e;cases e
  | some p=>rw[e']at e;rw[Option.some_or];exact e
theorem tV{α:Type}(es:List E3)(g:E3→List α){i:Nat}(hi:i<es.length):es.flatMap g=(es.take i).flatMap g++(g (es.getD i e0)++(es.drop (i+1)).flatMap g):=by
 have:es=es.take i++(es.getD i e0 :: es.drop (i+1)):=by
  have h2:es.drop i=es.getD i e0 :: es.drop (i+1):=by
   rw[gD,gE hi];exact List.drop_eq_getElem_cons hi
  rw[←h2,List.take_append_drop]
 conv=>lhs;rw[this]
 rw[List.flatMap_append,List.flatMap_cons]
theorem tQ{nodes:Nat→Option Nd}{key:ByteArray}:∀{h b:Nat} {lo hi:OB},Ok nodes h b lo hi→find nodes h b key=eW (bU nodes h b) key
 | 0,b,lo,hi,hk=>by
  obtain⟨es,e1,e2,_⟩:=hk;simp only[find,bU,dN e1];by_cases hh:fG es key=true
  ·rw[if_pos hh]
   obtain⟨k1,k2⟩:=(dF es key).1 hh;generalize cLt es key=i at *;have hsp:es.map (fun e=>(e.1,e.2.1))=(es.take i).map (fun e=>(e.1,e.2.1))++((es.getD i e0).1,(es.getD i e0).2.1) ::(es.drop (i+1)).map (fun e=>(e.1,e.2.1)):=by
    have h2:es.drop i=es.getD i e0 :: es.drop (i+1):=by
     rw[gD,gE k1];exact List.drop_eq_getElem_cons k1
    rw[←List.map_cons (f:=fun e:E3=>(e.1,e.2.1)),←h2,←List.map_append,List.take_append_drop]
   rw[hsp,iX]
   ·unfold eW
    have:((es.getD i e0).1.toList == key.toList)=true:=by rw[show(es.getD i e0).1=key from k2];simp
    rw[List.find?_cons_of_pos (p:=fun p:ByteArray×ByteArray=>p.1.toList == key.toList) (a:=((es.getD i e0).1,(es.getD i e0).2.1)) this];rfl
   ·intro p hp q
    obtain⟨e,he,rfl⟩:=List.mem_map.1 hp;obtain⟨j,hj,rfl⟩:=List.mem_take_iff_getElem.1 he;have:=e2.srt j i (by omega) k1;have e3:ky es j=es[j].1:=by unfold ky;rw[gD,gE (by omega)];rfl
    rw[k2,e3,q,eD]at this;cases this
  ·rw[if_neg hh]
   refine(tO fun p hp q=>?_).symm;obtain⟨e,he,rfl⟩:=List.mem_map.1 hp;obtain⟨j,hj,rfl⟩:=dP he;exact hh (jU e2.srt hj q).1
 | h+1,b,lo,hi,hk=>by
  obtain⟨es,e1,e2,e3,e4,e5⟩:=hk;simp only[find,bU,dN e1];have hil:=eE key e3;have ih:=tQ (key:=key) (e5 _ hil).2;rw[ih,tV es _ hil];have bad:∀j,j<es.length→j≠bK es key→∀p∈bU nodes h (kd es j),p.1≠key:=fun j hj hne p hp q=>by
   obtain⟨g1,g2⟩:=eK (e5 j hj).2 p hp;rw[q]at g1 g2;exact hne (aCU e2.srt key hj g1 fun q'=>by rw[cI _ q']at g2;exact g2).symm
  rw[iX,nL]
  ·rfl
  ·intro p hp
   obtain⟨e,he,hp⟩:=List.mem_flatMap.1 hp;obtain⟨j,hj,rfl⟩:=List.mem_drop_iff_getElem.1 he;have:es[bK es key+1+j]=es.getD (bK es key+1+j) e0:=by rw[gD,gE (by omega)];rfl
   rw[this]at hp;exact bad _ (by omega) (by omega) p hp
  ·intro p hp
   obtain⟨e,he,hp⟩:=List.mem_flatMap.1 hp;obtain⟨j,hj,rfl⟩:=List.mem_take_iff_getElem.1 he;have:es[j]=es.getD j e0:=by rw[gD,gE (by omega)];rfl
   rw[this]at hp;exact bad _ (by omega) (by omega) p hp
theorem kS{nodes:Nat→Option Nd}{key v:ByteArray}:∀{h b:Nat} {lo hi:OB},Ok nodes h b lo hi→find nodes h b key=some v→Mem nodes h b key
 | 0,b,lo,hi,hk,hf=>by
  obtain⟨es,e1,e2,_⟩:=hk;simp only[find,dN e1]at hf;by_cases hh:fG es key=true
  ·obtain⟨k1,k2⟩:=(dF es key).1 hh
   exact⟨es,e1,_,k1,k2⟩
  ·rw[if_neg hh]at hf;cases hf
 | h+1,b,lo,hi,hk,hf=>by
  obtain⟨es,e1,e2,e3,e4,e5⟩:=hk;simp only[find,dN e1]at hf;have hil:=eE key e3;exact⟨es,e1,_,hil,kS (e5 _ hil).2 hf⟩
theorem nV{nodes:Nat→Option Nd}:∀{h b:Nat} {lo hi:OB},Ok nodes h b lo hi→(bU nodes h b).Pairwise fun p q=>kl p.1 q.1=true
 | 0,b,lo,hi,hk=>by
  obtain⟨es,e1,e2,_⟩:=hk;simp only[bU,dN e1];rw[List.pairwise_map];rw[List.pairwise_iff_getElem];intro i j hi hj hij;have:=e2.srt i j hij hj;have g:∀i (h:i<es.length),ky es i=es[i].1:=fun i h=>by unfold ky;rw[gD,gE h];rfl
  rw[g i hi,g j hj]at this;exact this
 | h+1,b,lo,hi,hk=>by
  obtain⟨es,e1,e2,e3,e4,e5⟩:=hk;simp only[bU,dN e1];rw[List.pairwise_flatMap];have g:∀i (h:i<es.length),es[i]=es.getD i e0:=fun i h=>by rw[gD,gE h];rfl
  refine⟨fun e he=>?_,?_⟩
  ·obtain⟨j,hj,rfl⟩:=dP he
   exact nV (e5 j hj).2
  ·rw[List.pairwise_iff_getElem]
   intro i j hi hj hij p hp q hq;rw[g i hi]at hp;rw[g j hj]at hq;have a:=(eK (e5 i hi).2 p hp).2;have b':=(eK (e5 j hj).2 q hq).1;rw[cI _ (by omega)]at a;have a':kl p.1 (ky es (i+1))=true:=a;have b'':kl q.1 (ky es j)=false:=b';by_cases e:i+1=j
   ·rw[e]at a';exact lF a' b''
   ·exact lF (kG a' (e2.srt (i+1) j (by omega) hj)) b''
theorem Mem.frame_iff{nodes nodes':Nat→Option Nd}{U:Nat→Prop}(hU:∀x d,U x→nodes x=some d→∀c∈kids d,U c)(he:∀x,U x→nodes' x=nodes x){key:ByteArray}{h b:Nat}(hb:U b):Mem nodes h b key↔Mem nodes' h b key:=
 ⟨Mem.frame hU he h b hb,Mem.frame (fun x d hx hd c hc=>hU x d hx (by rw[←he x hx];exact hd) c hc) (fun x hx=>(he x hx).symm) h b hb⟩
theorem kX.iff{nodes nodes':Nat→Option Nd}{h:Nat}{d:Nd}{key:ByteArray}(hf:∀c∈kids d,∀h',Mem nodes h' c key↔Mem nodes' h' c key):kX nodes h d key↔kX nodes' h d key:=by
 obtain⟨k,es⟩:=d;cases h with
 | zero=>exact Iff.rfl
 | succ h=>
  constructor
  ·rintro⟨e1,e,he,e2⟩;simp only at e1 he;subst e1;exact⟨rfl,e,he,(hf _ (aU.2 ⟨e,he,rfl⟩) h).1 e2⟩
  ·rintro⟨e1,e,he,e2⟩;simp only at e1 he;subst e1;exact⟨rfl,e,he,(hf _ (aU.2 ⟨e,he,rfl⟩) h).2 e2⟩
theorem kX.cut{nodes:Nat→Option Nd}{h:Nat}{k:Int}{es:List E3}{key:ByteArray}(m:Nat):kX nodes h (k,es) key↔kX nodes h (k,es.take m) key∨kX nodes h (k,es.drop m) key:=by
 have hmem:∀e,e∈es↔e∈es.take m∨e∈es.drop m:=fun e=>by rw[←List.mem_append,List.take_append_drop]
 cases h with
 | zero=>
  constructor
  ·rintro⟨e1,e,he,e2⟩
   rcases(hmem e).1 he with q | q
   ·exact .inl ⟨e1,e,q,e2⟩
   ·exact .inr ⟨e1,e,q,e2⟩
  ·rintro(⟨e1,e,he,e2⟩ | ⟨e1,e,he,e2⟩)
   ·exact⟨e1,e,(hmem e).2 (.inl he),e2⟩
   ·exact⟨e1,e,(hmem e).2 (.inr he),e2⟩
 | succ h=>
  constructor
  ·rintro⟨e1,e,he,e2⟩
   rcases(hmem e).1 he with q | q
   ·exact .inl ⟨e1,e,q,e2⟩
   ·exact .inr ⟨e1,e,q,e2⟩
  ·rintro(⟨e1,e,he,e2⟩ | ⟨e1,e,he,e2⟩)
   ·exact⟨e1,e,(hmem e).2 (.inl he),e2⟩
   ·exact⟨e1,e,(hmem e).2 (.inr he),e2⟩
theorem Wk.lowKey_mem{f:fZ}{t H:Nat}(w:Wk f t H){P:List Nat}{b h:Nat}{lo hi:OB}(p:aN f t H P b (h+1) lo hi){es:List E3}(hes:f.nodes b=some (2,es))(key key':ByteArray):
  Mem f.nodes (h+1) b key'↔Mem (setN f b (2,lowK es key)).nodes (h+1) b key':=by
 obtain⟨_,q1,_,hne⟩:=p.inner w;rw[hes]at q1;cases q1;have hnb:(setN f b (2,lowK es key)).nodes b=some (2,lowK es key):=aD _ _ _;obtain⟨U,hUc,hUe,hU⟩:=p.cl w.ic w.tl hes (nodes':=(setN f b (2,lowK es key)).nodes) (fun _=>False) (fun _ q=>q.elim) (fun x d hx hxb _=>by show upd _ _ _ x=_;rw[aC _ _ hxb];exact hx);have hk:∀j,j<es.length→(Mem f.nodes h (kd es j) key'↔Mem (setN f b (2,lowK es key)).nodes h (kd es j) key'):=fun j hj=>by
  obtain⟨d,hd⟩:=w.ic.kid_live hes (aO hj);exact Mem.frame_iff hUc hUe (hU _ d hd (p.kid_off w.ic hes (aO hj)) id)
 have hkd:∀j,kd (lowK es key) j=kd es j:=fun j=>by unfold kd ch;rw[(yP es key j hne).1]
 constructor
 ·rintro⟨es',e1,j,hj,e2⟩
  rw[hes]at e1;cases e1;exact⟨_,hnb,j,by rw[cH];exact hj,by rw[hkd];exact(hk j hj).1 e2⟩
 ·rintro⟨es',e1,j,hj,e2⟩
  rw[hnb]at e1;cases e1;rw[cH]at hj;rw[hkd]at e2;exact⟨es,hes,j,hj,(hk j hj).2 e2⟩
theorem Wk.shadow_mem{f:fZ}{t H:Nat}(w:Wk f t H){P:List Nat}{b h:Nat}{lo hi:OB}(p:aN f t H P b (h+1) lo hi){es:List E3}(hes:f.nodes b=some (2,es)){i:Nat}(hi':i<es.length){g:fZ}{c:Nat}(hs:shadow f (.ent b i)=some (g,c))(key:ByteArray)(h':Nat):
  Mem f.nodes h' (kd es i) key↔Mem g.nodes h' c key:=by
 have hlk:look f b=(2,es):=aE hes;have hg:bJ f (.ent b i)=kd es i:=by simp only[bJ,hlk];rfl
 unfold shadow at hs;rw[hg]at hs;by_cases ho:own f (kd es i)
 ·rw[if_pos ho]at hs;cases hs;exact Iff.rfl
 ·rw[if_neg ho]at hs
  by_cases hl:aF f=0
  ·rw[if_pos hl]at hs;cases hs
  ·rw[if_neg hl]at hs;cases hs
   obtain⟨hq2,hqn,hc,_⟩:=aQ hl;generalize aF f=q at *;obtain⟨d,hd⟩:=w.ic.kid_live hes (aO hi');have hL:dQ f (.ent b i):=⟨w.ic.lt hes,es,hes,hi'⟩;obtain⟨I1,I2,I3,I4,I5⟩:=w.ic.shadow hL hg hd hq2 hqn hc;have hqd:f.nodes q=none:=(w.ic.dom.dead q).2 hc;have hck:=aO hi';have hcq:kd es i≠q:=fun e=>by rw[e,hqd]at hd;cases hd
   have hbq:b≠q:=fun e=>by rw[e,hqd]at hes;cases hes
   have hns:=w.ic.not_self hd;have nq:(shadowAt f (.ent b i) q).nodes q=some d:=by
    rw[I2];unfold shN cpN;simp only;split
    ·rw[aC _ _ (Ne.symm hcq),aC _ _ (Ne.symm hbq),aD]
    ·rw[aC _ _ (Ne.symm hbq),aD]
   have nx:∀x,x≠b→x≠q→¬(x=kd es i∧cu f (kd es i)=1)→(shadowAt f (.ent b i) q).nodes x=f.nodes x:=fun x h1 h2 h3=>by
    rw[I2];unfold shN cpN;simp only;split
    ·rename_i hcu
     rw[aC _ _ (fun e=>h3 ⟨e,hcu⟩),aC _ _ h1,aC _ _ h2]
    ·rw[aC _ _ h1,aC _ _ h2]
   have hlive:∀{x:Nat} {d':Nd},f.nodes x=some d'→x≠q:=fun hx e=>by rw[e,hqd]at hx;cases hx
   obtain⟨U,hUc,hUe,hU⟩:=p.cl w.ic w.tl hes (nodes':=(shadowAt f (.ent b i) q).nodes) (fun x=>x=kd es i∧cu f (kd es i)=1) (fun x ⟨q1,q2⟩=>⟨by rw[q1];exact q2,by rw[q1];exact hck⟩) (fun x d hx hxb hxc=>by rw[nx x hxb (hlive hx) hxc];exact hx);rw[bN nq,bN hd];refine kX.iff fun c hc' h''=>?_;obtain⟨dc,hdc⟩:=w.ic.kid_live hd hc';exact Mem.frame_iff hUc hUe (hU c dc hdc (p.kid2_off w.ic hes hck hd hc').1 fun q'=>hns (q'.1▸hc'))
theorem Wk.split_mem{f:fZ}{t H:Nat}(w:Wk f t H){P:List Nat}{b h:Nat}{lo hi:OB}(p:aN f t H P b (h+1) lo hi){es:List E3}(hes:f.nodes b=some (2,es)){i:Nat}(hi':i<es.length){k:Int}{ces:List E3}(hd:f.nodes (kd es i)=some (k,ces))(h1:cu f (kd es i)=1)
  {m q:Nat} (hqn:q<f.cur.length) (hc:cu f q=0) (hm:2≤m) (hm':m+2≤ces.length) (hq2:2≤q) (key:ByteArray):
  let f':=splitF f b es i (kd es i) k ces m q (ky ces m)
  Mem f.nodes h (kd es i) key↔Mem f'.nodes h (kd es i) key∨Mem f'.nodes h q key:=by
 intro f';obtain⟨I1,I2⟩:=w.ic.split (key:=ky ces m) (m:=m) hes hi' (rfl:kd es i=_) hd (by omega) (by omega) hq2 hqn hc;have hqd:f.nodes q=none:=(w.ic.dom.dead q).2 hc;have hck:=aO hi';have hcb:kd es i≠b:=fun e=>w.ic.not_self hes (by rw[←e];exact hck);have hcq:kd es i≠q:=fun e=>by rw[e,hqd]at hd;cases hd
 have hbq:b≠q:=fun e=>by rw[e,hqd]at hes;cases hes
 have hns:=w.ic.not_self hd;have nq:f'.nodes q=some (k,ces.drop m):=by rw[I2,aC _ _ (Ne.symm hbq),aD]
 have nc:f'.nodes (kd es i)=some (k,ces.take m):=by rw[I2,aC _ _ hcb,aC _ _ hcq,aD]
 have nx:∀x,x≠b→x≠q→x≠kd es i→f'.nodes x=f.nodes x:=fun x h1 h2 h3=>by rw[I2,aC _ _ h1,aC _ _ h2,aC _ _ h3]
 have hlive:∀{x:Nat} {d':Nd},f.nodes x=some d'→x≠q:=fun hx e=>by rw[e,hqd]at hx;cases hx
 obtain⟨U,hUc,hUe,hU⟩:=p.cl w.ic w.tl hes (nodes':=f'.nodes) (fun x=>x=kd es i) (fun x q1=>by rw[q1];exact⟨h1,hck⟩) (fun x d hx hxb hxc=>by rw[nx x hxb (hlive hx) hxc];exact hx);have hk:∀c∈kids (k,ces),∀h',Mem f.nodes h' c key↔Mem f'.nodes h' c key:=fun c hc' h'=>by
  obtain⟨dc,hdc⟩:=w.ic.kid_live hd hc';exact Mem.frame_iff hUc hUe (hU c dc hdc (p.kid2_off w.ic hes hck hd hc').1 fun q'=>hns (q'▸hc'))
 rw[bN nq,bN nc,bN hd,kX.iff hk,kX.cut m]
theorem Wk.stepDown_mem{f:fZ}{t H:Nat}(w:Wk f t H){P:List Nat}{b h:Nat}{lo hi:OB}(p:aN f t H P b (h+1) lo hi){key:ByteArray}(hl:loR lo key)(h5:sz f.nodes b<5){g:fZ}{c:Nat}(hs:Fo.stepDown f b key=some (g,c)):
  Mem f.nodes (h+1) b key↔Mem g.nodes h c key:=by
 obtain⟨es,hes,hnr,hne⟩:=p.inner w;have hz:es.length<5:=by unfold sz at h5;rw[hes]at h5;exact h5
 obtain⟨w1,p1,r1⟩:=w.lowKey p hes key hl;have k1:=w.lowKey_mem p hes key key;unfold Fo.stepDown at hs;rw[aE hes]at hs;simp only at hs;generalize hK:lowK es key=es1 at *;have hes1:(setN f b (2,es1)).nodes b=some (2,es1):=aD _ _ _;have hl1:es1.length=es.length:=by rw[←hK];exact cH es key
 have hne1:es1≠[]:=fun e=>hne (List.length_eq_zero_iff.1 (by rw[←hl1,e];rfl));have hil:bK es1 key<es1.length:=eE key hne1;have k2:Mem (setN f b (2,es1)).nodes (h+1) b key↔Mem (setN f b (2,es1)).nodes h (kd es1 (bK es1 key)) key:=⟨fun hm=>Mem.at hes1 (p1.ok w1.ok).1 hm,fun hm=>⟨es1,hes1,_,hil,hm⟩⟩;generalize bK es1 key=i at *;cases hsh:shadow (setN f b (2,es1)) (.ent b i)with
 | none=>rw[hsh]at hs;cases hs
 | some gc=>
  obtain⟨g1,c1⟩:=gc;rw[hsh]at hs;simp only at hs;obtain⟨w2,p2,p3,⟨es2,m1,m2,m3,m4⟩,m5,m6,m7,m8,m9⟩:=w1.shadow_ent p1 hes1 hil hsh;have k3:=w1.shadow_mem p1 hes1 hil hsh key h;obtain⟨⟨k,ces⟩,hd⟩:=w2.ic.live (x:=c1) (by rw[m6];omega);rw[aE hd]at hs;simp only at hs;by_cases hfull:ces.length=5
  ·rw[if_pos hfull]at hs
   by_cases hlw:aF g1=0
   ·rw[if_pos hlw]at hs;cases hs
   ·rw[if_neg hlw,aE m1]at hs
    simp only at hs
    obtain⟨l1,l2,l3,l4⟩:=aQ hlw;have hs4:i<es2.length:=by rw[m2];exact hil
    obtain⟨w4,p4,p5,p6,n1,n2,n3,n4⟩:=w2.split p2 m1 (by rw[m2,hl1];exact hz) hs4 (by rw[m4];exact hd) (by rw[m4];exact m6) (m:=3) (by omega) (by omega) l1 l2 l3;have k4:=w2.split_mem p2 m1 hs4 (by rw[m4];exact hd) (by rw[m4];exact m6) (m:=3) l2 l3 (by omega) (by omega) l1 key;rw[m4]at w4 p4 p5 p6 n1 n2 n3 n4 k4;simp only[sJ,Prod.mk.injEq]at hs;obtain⟨rfl,rfl⟩:=hs;simp only at k4;rw[k1,k2,k3,k4];by_cases hkl:kl key (ky ces 3)=true
    ·rw[if_pos hkl]
     refine⟨fun q=>q.resolve_right fun q=>?_,.inl⟩;have b1:=(Mem.bounds (p6.ok w4.ok).1 q).1;have b2:kl key (ky ces 3)=false:=b1;rw[hkl]at b2;cases b2
    ·rw[if_neg hkl]
     refine⟨fun q=>q.resolve_left fun q=>?_,.inr⟩;have b1:=(Mem.bounds (p5.ok w4.ok).1 q).2;exact hkl b1
  ·rw[if_neg hfull]at hs
   simp only[sJ,Prod.mk.injEq]at hs;obtain⟨rfl,rfl⟩:=hs;rw[k1,k2,k3]
theorem kY{t H:Nat}{key val:ByteArray}:∀{h:Nat} {f:fZ} (w:Wk f t H) {P:List Nat} {b:Nat} {lo hi:OB} (p:aN f t H P b h lo hi) (hl:loR lo key) (hh:hiR hi key) (h5:sz f.nodes b<5) {g:fZ} {th:Bool} (hs:putAt h f b key val=some (g,th)),
  th=true↔Mem f.nodes h b key
 | 0,f,w,P,b,lo,hi,p,hl,hh,h5,g,th,hs=>by
  obtain⟨es,hes,hn,hc⟩:=p.leaf w;unfold putAt at hs;rw[aE hes]at hs;simp only[sJ,Prod.mk.injEq]at hs;obtain⟨_,rfl⟩:=hs;constructor
  ·intro q
   obtain⟨k1,k2⟩:=(dF es key).1 q;exact⟨es,hes,_,k1,k2⟩
  ·rintro⟨es',e1,j,hj,e2⟩
   rw[hes]at e1;cases e1;exact(jU hn.srt hj e2).1
 | h+1,f,w,P,b,lo,hi,p,hl,hh,h5,g,th,hs=>by
  unfold putAt at hs;cases hsd:stepDown f b key with
  | none=>rw[hsd]at hs;cases hs
  | some gc=>
   obtain⟨g1,c1⟩:=gc;rw[hsd]at hs;obtain⟨P',lo',hi',w1,p1,l1,l2,l3,l4,l5⟩:=w.stepDown p hl hh h5 hsd;rw[w.stepDown_mem p hl h5 hsd];exact kY w1 p1 l1 l2 l3 hs
theorem Wk.shadow_root_mem{f:fZ}{t H:Nat}(w:Wk f t H){g:fZ}{r:Nat}(hs:shadow f (.root t)=some (g,r))(key:ByteArray)(h:Nat):Mem f.nodes h (aB f t) key↔Mem g.nodes h r key:=by
 obtain⟨w1,p1,a1,a2,a3,a4,a5,a6⟩:=w.shadow_root hs;unfold shadow at hs;have hg:bJ f (.root t)=aB f t:=rfl;rw[hg]at hs;by_cases ho:own f (aB f t)
 ·rw[if_pos ho]at hs;cases hs;exact Iff.rfl
 ·rw[if_neg ho]at hs
  by_cases hl:aF f=0
  ·rw[if_pos hl]at hs;cases hs
  ·rw[if_neg hl]at hs
   simp only[sJ,Prod.mk.injEq]at hs;obtain⟨hg1,hr1⟩:=hs;obtain⟨l1,l2,l3,_⟩:=aQ hl;obtain⟨d,hd⟩:=w.ic.root_live (aP w.tl);have hd':f.nodes (aB f t)=some d:=hd;obtain⟨I1,I2,_⟩:=w.ic.shadow (L:=.root t) w.tl rfl hd l1 l2 l3;have hqd:f.nodes (aF f)=none:=(w.ic.dom.dead _).2 l3;have hI2:g.nodes=if cu f (aB f t)=1 then upd (upd f.nodes (aF f) (some d)) (aB f t) none else upd f.nodes (aF f) (some d):=by rw[←hg1];exact I2
   let U:Nat→Prop:=fun x=>(∃d,f.nodes x=some d)∧(cu f (aB f t)=1→x≠aB f t)
   have hUc:∀x d,U x→f.nodes x=some d→∀c∈kids d,U c:=fun x d' _ hx c hc'=>
    ⟨w.ic.kid_live hx hc',fun h1 e=>(w.ic.onlyRoot (aP w.tl) h1).2 x d' hx (by have:c=(f.roots.getD t (0,0)).2.toNat:=e;rw[←this];exact hc')⟩
   have hUe:∀x,U x→g.nodes x=f.nodes x:=fun x ⟨⟨d',hx⟩,h1⟩=>by
    have hxq:x≠aF f:=fun e=>by rw[e,hqd]at hx;cases hx
    rw[hI2];split
    ·rename_i hcu;rw[aC _ _ (h1 hcu),aC _ _ hxq]
    ·rw[aC _ _ hxq]
   have nr:g.nodes r=some d:=by rw[a2];exact hd'
   rw[bN nr,bN hd'];exact kX.iff fun c hc' h'=>Mem.frame_iff hUc hUe ⟨w.ic.kid_live hd' hc',fun _ e=>w.ic.not_self hd' (e▸hc')⟩
theorem Wk.grow_mem{f:fZ}{t H:Nat}(w:Wk f t H)(h1:cu f (aB f t)=1){k:Int}{es:List E3}(hd:f.nodes (aB f t)=some (k,es)){m q top:Nat}(hm:2≤m)(hm':m+2≤es.length)
  (hq2:2≤q) (hqn:q<f.cur.length) (hq:cu f q=0) (ht2:2≤top) (htn:top<f.cur.length) (htc:cu f top=0) (htq:top≠q) (key:ByteArray):
  let f':=growF f t (aB f t) k es m q top (ky es 0) (ky es m)
  Mem f.nodes H (aB f t) key↔Mem f'.nodes (H+1) top key:=by
 intro f';obtain⟨I1,I2⟩:=w.ic.grow (t:=t) (r:=aB f t) (m:=m) (ky es 0) (ky es m) w.tl rfl hd (by omega) (by omega) hq2 hqn hq ht2 htn htc htq;have hqd:f.nodes q=none:=(w.ic.dom.dead q).2 hq;have htd:f.nodes top=none:=(w.ic.dom.dead top).2 htc;have hrq:aB f t≠q:=fun e=>by rw[e,hqd]at hd;cases hd
 have hrt:aB f t≠top:=fun e=>by rw[e,htd]at hd;cases hd
 have ho:=w.ic.onlyRoot (aP w.tl) h1;have ntop:f'.nodes top=some (2,[(ky es 0,.empty,(aB f t:Int)),(ky es m,.empty,(q:Int))]):=by rw[I2,aD]
 have nq:f'.nodes q=some (k,es.drop m):=by rw[I2,aC _ _ (Ne.symm htq),aD]
 have nr:f'.nodes (aB f t)=some (k,es.take m):=by rw[I2,aC _ _ hrt,aC _ _ hrq];exact aD _ _ _
 let U:Nat→Prop:=fun x=>(∃d,f.nodes x=some d)∧x≠aB f t
 have hUc:∀x d,U x→f.nodes x=some d→∀c∈kids d,U c:=fun x d' _ hx c hc'=>
  ⟨w.ic.kid_live hx hc',fun e=>ho.2 x d' hx (by have:c=(f.roots.getD t (0,0)).2.toNat:=e;rw[←this];exact hc')⟩
 have hUe:∀x,U x→f'.nodes x=f.nodes x:=fun x ⟨⟨d',hx⟩,h1⟩=>by
  have hxq:x≠q:=fun e=>by rw[e,hqd]at hx;cases hx
  have hxt:x≠top:=fun e=>by rw[e,htd]at hx;cases hx
  rw[I2,aC _ _ hxt,aC _ _ hxq];exact aC _ _ h1
 have hk:∀c∈kids (k,es),∀h',Mem f.nodes h' c key↔Mem f'.nodes h' c key:=fun c hc' h'=>
  Mem.frame_iff hUc hUe ⟨w.ic.kid_live hd hc',fun e=>w.ic.not_self hd (e▸hc')⟩
 have e1:ch (ky es 0,.empty,(aB f t:Int))=aB f t:=by simp[ch]
 have e2:ch (ky es m,.empty,(q:Int))=q:=by simp[ch]
 rw[bN hd,kX.iff hk,kX.cut m,←bN nr,←bN nq,bN ntop];constructor
 ·rintro(q' | q')
  ·exact⟨rfl,_,List.mem_cons_self,by rw[e1];exact q'⟩
  ·exact⟨rfl,_,List.mem_cons_of_mem _ List.mem_cons_self,by rw[e2];exact q'⟩
 ·rintro⟨_,e,he,q'⟩
  simp only[List.mem_cons,List.not_mem_nil,or_false]at he;rcases he with rfl | rfl
  ·rw[e1]at q';exact .inl q'
  ·rw[e2]at q';exact .inr q'
theorem aFC{f:fZ}{t H:Nat}{key val:ByteArray}(w:Wk f t H){g:fZ}{th:Bool}(hs:put f t H key val=some (g,th)):th=true↔Mem f.nodes H (aB f t) key:=by
 unfold put at hs;cases hsh:shadow f (.root t)with
 | none=>rw[hsh]at hs;cases hs
 | some gr=>
  obtain⟨g1,r1⟩:=gr;rw[hsh]at hs;simp only at hs;obtain⟨w1,p1,a1,a2,a3,a4,a5,a6⟩:=w.shadow_root hsh;rw[w.shadow_root_mem hsh];obtain⟨⟨k,es⟩,hd⟩:=w1.ic.live (x:=r1) (by rw[a3];omega);have hcl:es.length≤5:=by
   obtain⟨d',d1,_,d2,_⟩:=((p1.ok w1.ok).1).sz_pos;rw[hd]at d1;cases d1;exact d2
  rw[aE hd]at hs;simp only at hs;by_cases hfull:es.length=5
  ·rw[if_pos hfull]at hs
   cases hgr:bM g1 t r1 with
   | none=>rw[hgr]at hs;cases hs
   | some kt=>
    obtain⟨g2,top⟩:=kt;rw[hgr]at hs;simp only at hs;unfold bM at hgr;rw[aE hd]at hgr;simp only at hgr;by_cases hl0:aF g1=0
    ·rw[if_pos hl0]at hgr;cases hgr
    ·rw[if_neg hl0]at hgr
     generalize hT:aF (takeAt (setN g1 r1 (k,es.take 3)) (aF g1) (k,es.drop 3))=tp at *;by_cases hl1:tp=0
     ·rw[if_pos hl1]at hgr;cases hgr
     ·rw[if_neg hl1]at hgr
      simp only[sJ,Prod.mk.injEq]at hgr;obtain⟨rfl,rfl⟩:=hgr;obtain⟨l1,l2,l3,l4⟩:=aQ hl0;obtain⟨m1,m2,m3,m4⟩:=aQ (hT▸hl1);rw[hT]at m1 m2 m3;have hcu:∀x,cu (takeAt (setN g1 r1 (k,es.take 3)) (aF g1) (k,es.drop 3)) x=if aF g1=x then 1 else cu g1 x:=fun x=>dT (f:=setN g1 r1 (k,es.take 3)) (k,es.drop 3) l2 x;rw[hcu]at m3;have htq:tp≠aF g1:=fun e=>by rw[if_pos e.symm]at m3;omega
      rw[if_neg (Ne.symm htq)]at m3;have m2':tp<g1.cur.length:=by simpa [takeAt,setN] using m2
      subst a1;obtain⟨w2,p2,b1,b2,b3⟩:=w1.grow a3 hd (m:=3) (by omega) (by omega) l1 l2 l3 m1 m2' m3 htq;refine Iff.trans ?_ (w1.grow_mem a3 hd (m:=3) (by omega) (by omega) l1 l2 l3 m1 m2' m3 htq key).symm;exact kY w2 p2 trivial trivial (by unfold sz;rw[b3];simp) hs
  ·rw[if_neg hfull]at hs
   exact kY w1 p1 trivial trivial (by unfold sz;rw[hd];simp only;omega) hs
def gT(c:List Int)(k:Nat):List Int:=c.set k (c.getD k 0+1)
def mD(K:Nat→List Nat):Nat→Nat→List Int→List Int
 | 0,_,c=>c
 | h+1,b,c=>(K b).foldl (fun c k=>if(gT c k).getD k 0=1 then mD K h k (gT c k)else gT c k) c
def vis(K:Nat→List Nat)(h:Nat)(c:List Int)(k:Nat):List Int:=if(gT c k).getD k 0=1 then mD K h k (gT c k)else gT c k
theorem tG(K:Nat→List Nat)(h b:Nat)(c:List Int):mD K (h+1) b c=(K b).foldl (vis K h) c:=rfl
theorem jJ(c:List Int)(k:Nat):(gT c k).length=c.length:=by simp[gT]
theorem oD(c:List Int)(k x:Nat)(hk:k<c.length):(gT c k).getD x 0=c.getD x 0+(one k x:Int):=by
 unfold gT;rw[eO];by_cases e:k=x
 ·subst e;rw[if_pos ⟨rfl,hk⟩,cA];rfl
 ·rw[if_neg (fun q=>e q.1),fT e];simp
def pZ(nodes:Nat→Option Nd)(n:Nat)(e:Nat→Bool)(x:Nat):Nat:=cM n fun y=>if e y then(bY (nodes y)).count x else 0
theorem rF{nodes:Nat→Option Nd}{n k:Nat}{d:Nd}{e:Nat→Bool}(hk:k<n)(hd:nodes k=some d)(he:e k=false)(x:Nat):pZ nodes n (fun y=>e y || y == k) x=pZ nodes n e x+(kids d).count x:=by
 have:=lN (n:=n) (g:=fun y=>if e y then(bY (nodes y)).count x else 0) (g':=fun y=>if(e y || y == k)=true then(bY (nodes y)).count x else 0) hk (fun y hy=>by
  have:(y == k)=false:=by simp[hy]
  simp[this])
 have a:(if e k=true then(bY (nodes k)).count x else 0)=0:=by rw[he];rfl
 have b:(if(e k || k == k)=true then(bY (nodes k)).count x else 0)=(kids d).count x:=by rw[hd];simp[bY]
 have t:pZ nodes n (fun y=>e y || y == k) x+(if e k=true then(bY (nodes k)).count x else 0)=pZ nodes n e x+(if(e k || k == k)=true then(bY (nodes k)).count x else 0):=this;rw[a,b]at t;exact t
structure J(f:fZ)(s:Nat→Nat)(c:List Int)(e:Nat→Bool)(P:List Nat):Prop where
 len:c.length=f.cur.length
 eq:∀x,x<f.cur.length→c.getD x 0+(P.count x:Int)=((s x+pZ f.nodes f.cur.length e x:Nat):Int)
 pos:∀x,0≤c.getD x 0
 vis:∀x,x<f.cur.length→(e x=true↔1≤c.getD x 0)
 live:∀x,e x=true→∃d,f.nodes x=some d
theorem aLP{f:fZ}(h:IC f){ht:Nat→Nat}(hh:Hts f.nodes ht){K:Nat→List Nat}(hK:∀b d,f.nodes b=some d→K b=kids d){s:Nat→Nat}:
  ∀(m:Nat) (l P:List Nat) (c:List Int) (e:Nat→Bool),(∀k∈l,(∃d,f.nodes k=some d)∧ht k=m)→J f s c e (l++P)→∃e',J f s (l.foldl (vis K m) c) e' P:=by
 intro m;induction m with
 | zero=>
  intro l;induction l with
  | nil=>intro P c e hl hJ;exact⟨e,hJ⟩
  | cons k l ih=>
   intro P c e hl hJ;obtain⟨⟨d,hd⟩,hk0⟩:=hl k List.mem_cons_self;have hkn:=h.lt hd;have hkc:k<c.length:=by rw[hJ.len];exact hkn
   have hkid:kids d=[]:=by
    refine List.eq_nil_iff_forall_not_mem.2 fun y hy=>?_;rcases hh k d hd with⟨q,_⟩ | ⟨_,q⟩
    ·simp[kids,q]at hy
    ·have:=q y hy;omega
   have hg:=fun x=>oD c k x hkc;have hcl:∀x,((k :: l++P).count x:Nat)=(l++P).count x+one k x:=fun x=>by simp only[List.cons_append,List.count_cons,beq_iff_eq,one]
   rw[List.foldl_cons];refine ih P _ (if c.getD k 0=0 then(fun y=>e y || y == k)else e) (fun y hy=>hl y (List.mem_cons_of_mem _ hy)) ?_;have hv:vis K 0 c k=gT c k:=by unfold vis mD;split<;>rfl
   rw[hv];by_cases h0:c.getD k 0=0
   ·rw[if_pos h0]
    have hek:e k=false:=by
     cases q:e k with
     | false=>rfl
     | true=>have:=(hJ.vis k hkn).1 q;omega
    refine⟨by rw[jJ];exact hJ.len,fun x hx=>?_,fun x=>?_,fun x hx=>?_,fun x hx=>?_⟩
    ·have:=hJ.eq x hx
     rw[hcl]at this;rw[hg,rF hkn hd hek,hkid,List.count_nil];omega
    ·rw[hg];have:=hJ.pos x;omega
    ·rw[hg]
     by_cases q:x=k
     ·subst q;rw[cA];have hp:=hJ.pos x;exact⟨fun _=>by omega,fun _=>by simp⟩
     ·have:(x == k)=false:=by simp[q]
      rw[this,Bool.or_false,fT (Ne.symm q)];have:=hJ.vis x hx;simpa using this
    ·simp only[Bool.or_eq_true,beq_iff_eq]at hx
     rcases hx with hx | hx
     ·exact hJ.live x hx
     ·subst hx;exact⟨d,hd⟩
   ·rw[if_neg h0]
    refine⟨by rw[jJ];exact hJ.len,fun x hx=>?_,fun x=>?_,fun x hx=>?_,hJ.live⟩
    ·have:=hJ.eq x hx
     rw[hcl]at this;rw[hg];omega
    ·rw[hg];have:=hJ.pos x;omega
    ·rw[hg]
     have h1:=hJ.vis x hx;by_cases q:k=x
     ·subst q;rw[cA]
      have:=hJ.pos k
      constructor
      ·intro _;omega
      ·intro _;exact h1.2 (by omega)
     ·rw[fT q];simpa using h1
 | succ m ihm=>
  intro l;induction l with
  | nil=>intro P c e hl hJ;exact⟨e,hJ⟩
  | cons k l ih=>
   intro P c e hl hJ;obtain⟨⟨d,hd⟩,hk0⟩:=hl k List.mem_cons_self;have hkn:=h.lt hd;have hkc:k<c.length:=by rw[hJ.len];exact hkn
   have hg:=fun x=>oD c k x hkc;have hcl:∀x,((k :: l++P).count x:Nat)=(l++P).count x+one k x:=fun x=>by simp only[List.cons_append,List.count_cons,beq_iff_eq,one]
   rw[List.foldl_cons];by_cases h0:c.getD k 0=0
   ·have hek:e k=false:=by
     cases q:e k with
     | false=>rfl
     | true=>have:=(hJ.vis k hkn).1 q;omega
    have hv:vis K (m+1) c k=(kids d).foldl (vis K m) (gT c k):=by
     unfold vis;rw[if_pos (by rw[hg,cA,h0];rfl),tG,hK k d hd];rfl
    obtain⟨e2,hJ2⟩:=ihm (kids d) (l++P) (gT c k) (fun y=>e y || y == k) (fun y hy=>⟨h.kid_live hd hy,by
     rcases hh k d hd with⟨q,_⟩ | ⟨_,q⟩
     ·simp[kids,q]at hy
     ·have:=q y hy;omega⟩) (by
     refine⟨by rw[jJ];exact hJ.len,fun x hx=>?_,fun x=>?_,fun x hx=>?_,fun x hx=>?_⟩
     ·have:=hJ.eq x hx
      rw[hcl]at this;rw[hg,rF hkn hd hek,List.count_append];omega
     ·rw[hg];have:=hJ.pos x;omega
     ·rw[hg]
      by_cases q:x=k
      ·subst q;rw[cA];have hp:=hJ.pos x;exact⟨fun _=>by omega,fun _=>by simp⟩
      ·have:(x == k)=false:=by simp[q]
       rw[this,Bool.or_false,fT (Ne.symm q)];have:=hJ.vis x hx;simpa using this
     ·simp only[Bool.or_eq_true,beq_iff_eq]at hx
      rcases hx with hx | hx
      ·exact hJ.live x hx
      ·subst hx;exact⟨d,hd⟩)
    rw[hv];exact ih P _ e2 (fun y hy=>hl y (List.mem_cons_of_mem _ hy)) hJ2
   ·have hv:vis K (m+1) c k=gT c k:=by
     unfold vis;rw[if_neg (by rw[hg,cA];omega)]
    rw[hv];refine ih P _ e (fun y hy=>hl y (List.mem_cons_of_mem _ hy)) ⟨by rw[jJ];exact hJ.len,fun x hx=>?_,fun x=>?_,fun x hx=>?_,hJ.live⟩
    ·have:=hJ.eq x hx
     rw[hcl]at this;rw[hg];omega
    ·rw[hg];have:=hJ.pos x;omega
    ·rw[hg]
     have h1:=hJ.vis x hx;by_cases q:k=x
     ·subst q;rw[cA]
      have:=hJ.pos k
      constructor
      ·intro _;omega
      ·intro _;exact h1.2 (by omega)
     ·rw[fT q];simpa using h1
def aLX(K:Nat→List Nat)(ht:Nat→Nat)(rs:List Nat)(n:Nat):List Int:=rs.foldl (fun c r=>vis K (ht r) c r) (List.replicate n 0)
theorem uV(nodes:Nat→Option Nd)(n x:Nat):pZ nodes n (fun _=>false) x=0:=by
 unfold pZ;induction n with
 | zero=>rfl
 | succ n ih=>simp only[cM];rw[ih];simp
theorem aKZ(ht:Nat→Nat)(n:Nat):∃M,∀x,x<n→ht x≤M:=by
 induction n with
 | zero=>exact⟨0,fun x hx=>by omega⟩
 | succ n ih=>
  obtain⟨M,hM⟩:=ih;refine⟨max M (ht n),fun x hx=>?_⟩;by_cases e:x=n
  ·subst e;omega
  ·have:=hM x (by omega);omega
theorem aJF{f:fZ}(h:IC f){ht:Nat→Nat}(hh:Hts f.nodes ht){K:Nat→List Nat}(hK:∀b d,f.nodes b=some d→K b=kids d):aLX K ht (f.roots.map fun r=>r.2.toNat) f.cur.length=f.cur:=by
 have go:∀(rs:List Nat) (c:List Int) (e:Nat→Bool),(∀r∈rs,∃d,f.nodes r=some d)→J f (rc f.roots) c e rs→∃e',J f (rc f.roots) (rs.foldl (fun c r=>vis K (ht r) c r) c) e' []:=by
  intro rs;induction rs with
  | nil=>intro c e _ hJ;exact⟨e,hJ⟩
  | cons r rs ih=>
   intro c e hr hJ;obtain⟨e1,hJ1⟩:=aLP h hh hK (ht r) [r] rs c e (fun k hk=>by
    simp only[List.mem_cons,List.not_mem_nil,or_false]at hk;subst hk;exact⟨hr k List.mem_cons_self,rfl⟩) hJ
   exact ih _ e1 (fun y hy=>hr y (List.mem_cons_of_mem _ hy)) hJ1
 obtain⟨e,hJ⟩:=go (f.roots.map fun r=>r.2.toNat) (List.replicate f.cur.length 0) (fun _=>false) (fun r hr=>by
  obtain⟨q,hq,rfl⟩:=List.mem_map.1 hr;exact h.root_live hq) ⟨by simp,fun x hx=>by
   rw[uV];have:(List.replicate f.cur.length (0:Int)).getD x 0=0:=by simp[gD,hx]
   rw[this];unfold rc;omega,fun x=>by
   by_cases hx:x<f.cur.length
   ·simp[gD,hx]
   ·simp[gD,hx],fun x hx=>by simp[gD,hx],fun x hx=>by simp at hx⟩
 show(f.roots.map fun r=>r.2.toNat).foldl _ _=_
 generalize (f.roots.map fun r=>r.2.toNat).foldl (fun c r=>vis K (ht r) c r) (List.replicate f.cur.length 0)=c at hJ ⊢;obtain⟨M,hM⟩:=aKZ ht f.cur.length;have all:∀k x d,f.nodes x=some d→M-ht x=k→e x=true:=by
  intro k;induction k using Nat.strongRecOn with
  | ind k ih=>
   intro x d hd hk;have hx:=h.lt hd;refine(hJ.vis x hx).2 ?_;have h1:=hJ.eq x hx;simp only[List.count_nil]at h1;have h2:=h.names hx;have h3:=h.cu_pos hd;by_cases hr:0<rc f.roots x
   ·omega
   ·have hdg:0<deg f.nodes f.cur.length x:=by omega
    obtain⟨y,hy,hyc⟩:=jM hdg;cases hyd:f.nodes y with
    | none=>rw[hyd]at hyc;simp[bY]at hyc
    | some dy=>
     rw[hyd]at hyc;have hxk:x∈kids dy:=List.count_pos_iff.1 hyc;have hty:ht x+1=ht y:=by
      rcases hh y dy hyd with⟨q,_⟩ | ⟨_,q⟩
      ·simp[kids,q]at hxk
      ·exact q x hxk
     have hyM:=hM y hy;have hey:=ih (M-ht y) (by omega) y dy hyd rfl;have hge:=nK (g:=fun z=>if e z then(bY (f.nodes z)).count x else 0) hy;simp only[hey,if_true]at hge;rw[hyd]at hge;have:0<pZ f.nodes f.cur.length e x:=lL hyc hge;omega
 have hde:∀x,pZ f.nodes f.cur.length e x=deg f.nodes f.cur.length x:=fun x=>by
  unfold pZ deg;refine pN fun y hy=>?_;cases hyd:f.nodes y with
  | none=>simp[bY]
  | some d=>rw[all _ y d hyd rfl];rfl
 refine List.ext_getElem? fun x=>?_;by_cases hx:x<f.cur.length
 ·have h1:=hJ.eq x hx
  simp only[List.count_nil]at h1;rw[hde]at h1;have h2:=h.names hx;have h3:c.getD x 0=cu f x:=by omega
  unfold cu at h3;rw[gD,gD,gE (by rw[hJ.len];exact hx),gE hx]at h3;rw[gE (by rw[hJ.len];exact hx),gE hx];simpa using h3
 ·rw[List.getElem?_eq_none (by rw[hJ.len];omega),List.getElem?_eq_none (by omega)]
