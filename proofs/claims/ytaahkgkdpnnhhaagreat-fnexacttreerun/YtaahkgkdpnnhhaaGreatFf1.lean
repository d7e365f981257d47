import Derived.WideMake
import Derived.Deep.Slices
import Derived.Lib.SmallJoins
import Derived.Test.YtaahkgkdpnnhhaaGreatYo
set_option maxHeartbeats 9999999
set_option maxRecDepth 99999
set_option linter.all false
namespace Go.Proofs.YtaahkgkdpnnhhaaGreat
open Go.RowKit Fo
def Is(B:Nat)(w:World)(r:Nat)(cs:Array Value)(t:TypeId):Prop:=B≤r∧w.heap[r]?=some (.cells cs t (0,0))
def aIU(w:World)(m p:Nat):Prop:=(∃es c,w.heap[m]?=some (.map es c))∧dR w m (upd (fun _=>none) 2 (some p))
def FF(B n:Nat)(w:World)(t:Nat→Value)(l5:Bool):Nat→Prop
 | 0=>t 4=.agg #[.int .i64 0,.int .i64 2]
 | 1=>∃r,t 5=.slice (some ⟨r,0,none⟩) 1 1∧Is B w r #[.int .i64 0,.int .i64 2] 77
 | 2=>∃m,t 6=.map (some m)∧B≤m∧(∃es c,w.heap[m]?=some (.map es c))∧(l5=false→w.heap[m]?=some (.map #[] 0))
 | 3=>t 7=.agg #[.int .i64 1,.slice none 0 0]
 | 4=>∃p,t 8=.pointer (some ⟨p,0,none⟩)∧Is B w p #[.int .i64 1,.slice none 0 0] 108
 | 5=>∃m p,t 6=.map (some m)∧t 8=.pointer (some ⟨p,0,none⟩)∧aIU w m p
 | 6=>t 9=t 6
 | 7=>t 10=.int .i64 n
 | 8=>∃c,t 11=.slice (some ⟨c,0,none⟩) n n∧Is B w c (cY (List.replicate n 0)) 2
 | 9=>t 12=.int .i64 n
 | 10=>∃d,t 13=.slice (some ⟨d,0,none⟩) n n∧Is B w d (cY (List.replicate n 0)) 2
 | 11=>∃q,t 14=.slice (some ⟨q,0,none⟩) 1 1∧Is B w q #[.int .i64 3] 2
 | 12=>t 15=.agg #[t 5,.int .i64 1,.int .i64 1,t 9,t 11,t 13,t 14,.slice none 0 0]
 | 13=>∃f cs,t 15=.agg cs∧t 16=.pointer (some ⟨f,0,none⟩)∧Is B w f cs 71
 | 14=>t 3=t 16
 | _=>True
def fU:List (List Nat):=[[4],[5],[6],[7],[8],[6,8],[9,6],[10],[11],[12],[13],[14],[15,5,9,11,13,14],[15,16],[3,16]]
def KpZ(w w':World)(ok:Prop):Prop:=(∀(g:Nat) cs t fr,w.heap[g]?=some (Obj.cells cs t fr)→w'.heap[g]?=some (Obj.cells cs t fr))∧(∀(g:Nat) es c,w.heap[g]?=some (Obj.map es c)→∃es c,w'.heap[g]?=some (Obj.map es c))∧(ok→∀(g:Nat) es c,w.heap[g]?=some (Obj.map es c)→w'.heap[g]?=some (Obj.map es c))
theorem KpZ.below{w w':World}(h:Bl w w'):KpZ w w' True:=
 ⟨fun g _ _ _ e=>(h.block g (Array.getElem?_eq_some_iff.1 e).1).trans e,fun g es c e=>⟨es,c,(h.block g (Array.getElem?_eq_some_iff.1 e).1).trans e⟩,fun _ g _ _ e=>(h.block g (Array.getElem?_eq_some_iff.1 e).1).trans e⟩
theorem FF.keep{B n:Nat}{w w':World}{t t':Nat→Value}{l l':Bool}{k:Nat}(h:FF B n w t l k)(hl:l'=false→l=false∧True)(hs:∀s∈fU.getD k [],t' s=t s)(hk:KpZ w w' (k=5∨l'=false)):FF B n w' t' l' k:=by
 obtain⟨k1,k2,k3⟩:=hk;match k with
 | 0=>exact(hs 4 (by simp[fU])).trans h
 | 1=>obtain⟨r,e,h1,h2⟩:=h;exact⟨r,(hs 5 (by simp[fU])).trans e,h1,k1 _ _ _ _ h2⟩
 | 2=>obtain⟨m,e,h1,⟨es,c,h2⟩,h3⟩:=h;exact⟨m,(hs 6 (by simp[fU])).trans e,h1,k2 _ _ _ h2,fun hf=>k3 (.inr hf) _ _ _ (h3 (hl hf).1)⟩
 | 3=>exact(hs 7 (by simp[fU])).trans h
 | 4=>obtain⟨r,e,h1,h2⟩:=h;exact⟨r,(hs 8 (by simp[fU])).trans e,h1,k1 _ _ _ _ h2⟩
 | 5=>obtain⟨m,p,e1,e2,⟨es,c,h1⟩,h2⟩:=h;exact⟨m,p,(hs 6 (by simp[fU])).trans e1,(hs 8 (by simp[fU])).trans e2,⟨es,c,k3 (.inl rfl) _ _ _ h1⟩,h2.of ((k3 (.inl rfl) _ _ _ h1).trans h1.symm)⟩
 | 6=>exact((hs 9 (by simp[fU])).trans h).trans (hs 6 (by simp[fU])).symm
 | 7=>exact(hs 10 (by simp[fU])).trans h
 | 8=>obtain⟨r,e,h1,h2⟩:=h;exact⟨r,(hs 11 (by simp[fU])).trans e,h1,k1 _ _ _ _ h2⟩
 | 9=>exact(hs 12 (by simp[fU])).trans h
 | 10=>obtain⟨r,e,h1,h2⟩:=h;exact⟨r,(hs 13 (by simp[fU])).trans e,h1,k1 _ _ _ _ h2⟩
 | 11=>obtain⟨r,e,h1,h2⟩:=h;exact⟨r,(hs 14 (by simp[fU])).trans e,h1,k1 _ _ _ _ h2⟩
 | 12=>
  have h':t 15=.agg #[t 5,.int .i64 1,.int .i64 1,t 9,t 11,t 13,t 14,.slice none 0 0]:=h;show t' 15=.agg #[t' 5,.int .i64 1,.int .i64 1,t' 9,t' 11,t' 13,t' 14,.slice none 0 0]
  rw[hs 15 (by simp[fU]),hs 5 (by simp[fU]),hs 9 (by simp[fU]),hs 11 (by simp[fU]),hs 13 (by simp[fU]),hs 14 (by simp[fU])];exact h'
 | 13=>obtain⟨f,cs,e1,e2,h1,h2⟩:=h;exact⟨f,cs,(hs 15 (by simp[fU])).trans e1,(hs 16 (by simp[fU])).trans e2,h1,k1 _ _ _ _ h2⟩
 | 14=>exact((hs 3 (by simp[fU])).trans h).trans (hs 16 (by simp[fU])).symm
 | k+15=>trivial
structure FI(w0:World)(n:Nat)(l:Array Bool)(a:Act)(w:World):Prop where
 size:a.tmps.size=33
 defers:a.defers=[]
 arg:a.tmps.getD 0 undef=.int .i64 n
 below:Bl w0 w
 facts:∀k,l.getD k false=true→FF w0.heap.size n w (fun s=>a.tmps.getD s undef) (l.getD 5 false) k
 apart:l.getD 8 false=true→l.getD 10 false=true→a.tmps.getD 11 undef≠a.tmps.getD 13 undef
def aGN(ops:Array Oper):Bool:=(List.range 15).all fun k=>(fU.getD k []).all fun s=>(List.range 15).all fun i=>i == k || (((ops[i]?).bind (·.dst)) != some s) || (((ops[k]?).map fun o=>o.after.toList.any fun e=>Region.binds .any e && e.on == i).getD false)
theorem aJB{ops:Array Oper}(hd:aGN ops=true){l:Array Bool}(hcl:aIV .any ops l){i k:Nat}(hi:i<15)(hk:k<15)(hl:l.getD k false=true)(hn:l.getD i false=false){o:Oper}(ho:ops[i]?=some o){s:Nat}(hs:s∈fU.getD k []):o.dst≠some s:=by
 intro he;have hki:i≠k:=fun e=>by subst e;rw[hl]at hn;cases hn
 have h1:=List.all_eq_true.1 hd k (List.mem_range.2 hk);have h2:=List.all_eq_true.1 h1 s hs;have h3:=List.all_eq_true.1 h2 i (List.mem_range.2 hi);rw[ho]at h3;simp only[Option.bind_some,he,bne_self_eq_false,Bool.or_false,Bool.or_eq_true,beq_iff_eq]at h3;rcases h3 with h3 | h3
 ·exact hki h3
 ·cases hok:ops[k]? with
  | none=>simp[hok]at h3
  | some ok=>
   simp only[hok,Option.map_some,Option.getD_some,List.any_eq_true,Bool.and_eq_true,beq_iff_eq]at h3;obtain⟨e,he1,he2,he3⟩:=h3;have:=hcl k hl ok hok e (by simpa using he1) he2;rw[he3,hn]at this;cases this
theorem aJM(a:Act)(d s:Nat)(v:Value)(h:d<a.tmps.size):(a.put (some d) v).tmps.getD s undef=if s=d then v else a.tmps.getD s undef:=by
 simp only[Act.put,Array.getD_eq_getD_getElem?,Array.getElem?_setIfInBounds];by_cases e:d=s
 ·subst e;simp[h]
 ·rw[if_neg e,if_neg (Ne.symm e)]
theorem FI.next{w0:World}{n:Nat}{l:Array Bool}{a:Act}{w:World}(h:FI w0 n l a w){ops:Array Oper}(hd:aGN ops=true)(hcl:aIV .any ops l){i:Nat}{o:Oper}(ho:ops[i]?=some o)(hi:i<15)(hls:l.size=15)(hnf:l.getD i false=false)(h5:i≠5)
  (d:Nat) (hod:o.dst=some d) (hd33:d<33) (hd0:d≠0) (v:Value) (w':World) (hb:Bl w w')
  (hf:FF w0.heap.size n w' (fun s=>if s=d then v else a.tmps.getD s undef) (l.getD 5 false) i)
  (hap:(l.setIfInBounds i true).getD 8 false=true→(l.setIfInBounds i true).getD 10 false=true→(if 11=d then v else a.tmps.getD 11 undef)≠(if 13=d then v else a.tmps.getD 13 undef)):
  FI w0 n (l.setIfInBounds i true) (a.put (some d) v) w':=by
 have hsz:=h.size;have hg:=fun s=>aJM a d s v (by omega);have e5:(l.setIfInBounds i true).getD 5 false=l.getD 5 false:=getD_set_ne false h5;refine⟨by simp[Act.put,hsz],h.defers,?_,h.below.trans (hb.mono h.below.size),fun k hk=>?_,fun h8 h10=>?_⟩
 ·rw[hg,if_neg (Ne.symm hd0)];exact h.arg
 ·rw[e5]
  by_cases hki:i=k
  ·subst hki
   have:(fun s=>(a.put (some d) v).tmps.getD s undef)=fun s=>if s=d then v else a.tmps.getD s undef:=funext hg
   rw[this];exact hf
  ·rw[getD_set_ne false hki]at hk
   have hk15:k<15:=by
    by_cases hh:k<15
    ·exact hh
    ·simp[Array.getElem?_eq_none (show l.size≤k by omega)]at hk
   refine(h.facts k hk).keep (fun e=>⟨e,trivial⟩) (fun s hs=>?_) ⟨(KpZ.below hb).1,(KpZ.below hb).2.1,fun _=>(KpZ.below hb).2.2 trivial⟩;have:=aJB hd hcl hi hk15 hk hnf ho hs;rw[hg,if_neg (fun e=>this (by rw[e];exact hod))]
 ·rw[hg,hg];exact hap h8 h10
theorem FI.apart_keep{w0:World}{n:Nat}{l:Array Bool}{a:Act}{w:World}(h:FI w0 n l a w)(i d:Nat)(v:Value)(h8:i≠8)(h10:i≠10)(d11:11≠d)(d13:13≠d):
  (l.setIfInBounds i true).getD 8 false=true→(l.setIfInBounds i true).getD 10 false=true→(if 11=d then v else a.tmps.getD 11 undef)≠(if 13=d then v else a.tmps.getD 13 undef):=by
 rw[getD_set_ne false h8,getD_set_ne false h10,if_neg d11,if_neg d13];exact h.apart
theorem FI.ins{w0:World}{n:Nat}{l:Array Bool}{a:Act}{w:World}(h:FI w0 n l a w){ops:Array Oper}(hls:l.size=15)(hnf:l.getD 5 false=false)(w':World)(m p:Nat)
  (hm:a.tmps.getD 6 undef=.map (some m)) (hp:a.tmps.getD 8 undef=.pointer (some ⟨p,0,none⟩)) (hB:w0.heap.size≤m) (hN:aIU w' m p) (hu:Upd m (m+1) w w') (he:w.heap[m]?=some (.map #[] 0)):
  FI w0 n (l.setIfInBounds 5 true) a w':=by
 have hml:m<w.heap.size:=(Array.getElem?_eq_some_iff.1 he).1;have e5:(l.setIfInBounds 5 true).getD 5 false=true:=by simp[hls]
 have kp:KpZ w w' False:=by
  refine⟨fun g cs t fr hg=>?_,fun g es c hg=>?_,fun hf=>hf.elim⟩
  ·have hne:g≠m:=fun e=>by subst e;rw[he]at hg;cases hg
   exact(hu.block g (Array.getElem?_eq_some_iff.1 hg).1 (by omega)).trans hg
  ·by_cases e:g=m
   ·subst e;obtain⟨⟨es,c,h1⟩,_⟩:=hN;exact⟨es,c,h1⟩
   ·exact⟨es,c,(hu.block g (Array.getElem?_eq_some_iff.1 hg).1 (by omega)).trans hg⟩
 refine⟨h.size,h.defers,h.arg,h.below.trans (hu.below hB h.below.size),fun k hk=>?_,fun h8 h10=>?_⟩
 ·rw[e5]
  by_cases hki:5=k
  ·subst hki;exact⟨m,p,hm,hp,hN⟩
  ·rw[getD_set_ne false hki]at hk
   exact(h.facts k hk).keep (fun e=>by cases e) (fun s _=>rfl) ⟨kp.1,kp.2.1,fun e=>by rcases e with e | e;exact absurd e.symm hki;cases e⟩
 ·rw[getD_set_ne false (show(5:Nat)≠8 by omega)]at h8
  rw[getD_set_ne false (show(5:Nat)≠10 by omega)]at h10;exact h.apart h8 h10
theorem map_none{w:World}{m:Nat}(he:w.heap[m]?=some (.map #[] 0)):dR w m (fun _=>none):=by
 refine⟨.map [],⟨#[],0,he,⟨by simp,MapKept.stamped_empty 0,by simp⟩,by simp[Maps.size],rfl⟩,?_,fun b _=>rfl,fun b _=>rfl⟩;have z:∀n,cM n (fun b=>if((fun _=>none:Nat→Option Nat) b).isSome then 1 else 0)=0:=fun n=>by
  induction n with
  | zero=>rfl
  | succ n ih=>simp only[cM];rw[ih];rfl
 exact(z 512).symm
theorem aIW{w:World}{m p:Nat}(he:w.heap[m]?=some (.map #[] 0)):
  ∃w',(Instr.mapUpdate 68 (.map (some m)) (.int .i64 2) (.pointer (some ⟨p,0,none⟩))).run Tryz.prog w=.ok () w'∧aIU w' m p∧Upd m (m+1) w w':=by
 obtain⟨w',hr,hM,hF⟩:=(map_none he).put 2 p (by omega);refine⟨w',hr,⟨?_,hM⟩,⟨hF.os,hF.tape,hF.output,hF.size,fun k hk hn=>hF.block k hk (by omega)⟩⟩
 ·obtain⟨D,⟨es,c,h1,_⟩,_⟩:=hM
  exact⟨es,c,h1⟩
def RdL(w:World)(v:Value)(l:List TO):Prop:=∃a c,v=.slice a l.length c∧(0<l.length→∃g o,a=some ⟨g,o,none⟩∧g<w.heap.size∧∀i,i<l.length→w.cell? ⟨g,o+i*4,none⟩=some (.int .i64 (l.getD i yO.z).1)∧w.cell? ⟨g,o+i*4+1,none⟩=some (.int .i64 (l.getD i yO.z).2.1)∧w.cell? ⟨g,o+i*4+2,none⟩=some (.string (l.getD i yO.z).2.2.1)∧w.cell? ⟨g,o+i*4+3,none⟩=some (.string (l.getD i yO.z).2.2.2))
theorem RdL.len{w:World}{v:Value}{l:List TO}(h:RdL w v l):∃a c,v=.slice a l.length c:=by
 obtain⟨a,c,e,_⟩:=h;exact⟨a,c,e⟩
theorem RdL.below{w w':World}{v:Value}{l:List TO}(h:RdL w v l)(k:Bl w w'):RdL w' v l:=by
 obtain⟨a,c,e,hc⟩:=h;refine⟨a,c,e,fun hl=>?_⟩;obtain⟨g,o,e2,hg,hx⟩:=hc hl;refine⟨g,o,e2,lL hg k.size,fun i hi=>?_⟩;have hw:∀q,w'.cell? ⟨g,q,none⟩=w.cell? ⟨g,q,none⟩:=fun q=>k.cell (p:=⟨g,q,none⟩) hg;rw[hw,hw,hw,hw];exact hx i hi
def fN{α:Type}(Y:Ely α)(lo hi:Nat)(w:World)(v:Value)(l:List α):Prop:=
 (v=.slice none 0 0∧l=[])∨∃g cap pre post,v=.slice (some ⟨g,pre.length*Y.n,none⟩) l.length cap∧lo≤g∧g<hi∧IsC w g (Y.row (pre++l++post)) Y.t
section
variable {α : Type} {Y : Ely α} {lo hi lo' hi' : Nat} {w w' : World} {v : Value} {l : List α}
theorem fN.sl(h:fN Y lo hi w v l):Y.Sl w v l:=by
 rcases h with⟨e,h⟩ | ⟨g,cap,pre,post,e,_,_,h⟩
 ·exact .inl ⟨e,h⟩
 ·exact .inr ⟨g,pre.length,cap,pre++l++post,e,h,by simp,by simp[List.append_assoc]⟩
theorem fN.len(h:fN Y lo hi w v l):∃a c,v=.slice a l.length c:=h.sl.len
theorem fN.kept(h:fN Y lo hi w v l)(k:∀b,lo≤b→b<hi→b<w.heap.size→w'.heap[b]?=w.heap[b]?):fN Y lo hi w' v l:=by
 rcases h with h | ⟨g,cap,pre,post,e,h1,h2,h⟩
 ·exact .inl h
 ·exact .inr ⟨g,cap,pre,post,e,h1,h2,h.of (k g h1 h2 h.lt)⟩
theorem fN.below(h:fN Y lo hi w v l)(k:Bl w w'):fN Y lo hi w' v l:=h.kept fun b _ _ hb=>k.block b hb
theorem fN.upd(h:fN Y lo hi w v l)(k:Upd lo' hi' w w')(hd:hi≤lo'∨hi'≤lo):fN Y lo hi w' v l:=h.kept fun b h1 h2 hb=>k.block b hb (by omega)
theorem Ely.Own.yown(h:Y.Own lo w v l):fN Y lo w.heap.size w v l:=by
 obtain⟨a,junk,e,hr,hb⟩:=h;cases a with
 | none=>obtain⟨rfl,rfl⟩:=hr.nil rfl;exact .inl ⟨e,rfl⟩
 | some g=>exact .inr ⟨g,l.length+junk.length,[],junk,by rw[e];simp[adr],hb g rfl,(hr.arr g rfl).lt,by simpa using hr.arr g rfl⟩
end
theorem aDI{α:Type}(pre l post:List α)(j:Nat)(hj:j<l.length)(a:α):(pre++l++post).set (pre.length+j) a=pre++l.set j a++post:=by
 rw[List.append_assoc,List.set_append_right _ _ (by omega),show pre.length+j-pre.length=j by omega,List.set_append_left _ _ hj,List.append_assoc]
theorem wK{α:Type}(pre l post:List α)(j:Nat)(hj:j<l.length)(z:α):(pre++l++post).getD (pre.length+j) z=l.getD j z:=by
 simp only[gD];rw[List.append_assoc,List.getElem?_append_right (by omega),show pre.length+j-pre.length=j by omega,List.getElem?_append_left hj]
theorem Ely.mid{α:Type}(Y:Ely α){w:World}{g:Nat}{pre l post:List α}(h:IsC w g (Y.row (pre++l++post)) Y.t){j f:Nat}(hj:j<l.length)(hf:f<Y.n):w.cell? ⟨g,pre.length*Y.n+j*Y.n+f,none⟩=(Y.cell (l.getD j Y.z))[f]?:=by
 rw[h.cell,←Nat.add_mul];have:=Y.at (pre++l++post) (i:=pre.length+j) (j:=f) (by simp;omega) hf;rw[this,wK pre l post j hj]
theorem Ely.set1{α:Type}(Y:Ely α)(L:List α){i f:Nat}(hi:i<L.length)(hf:f<Y.n)(v:Value)(a':α)(hc:Y.cell a'=(Y.cell (L.getD i Y.z)).set f v):(Y.row L).setIfInBounds (i*Y.n+f) v=Y.row (L.set i a'):=by
 have hp:=Y.hp;apply Array.ext_getElem?;intro p;by_cases hpl:p<L.length*Y.n
 ·have he:p / Y.n<L.length:=Nat.div_lt_of_lt_mul (by rw[Nat.mul_comm];exact hpl)
  have hr:p % Y.n<Y.n:=Nat.mod_lt _ hp;have h1:=Y.at L (i:=p / Y.n) (j:=p % Y.n) he hr;have h2:=Y.at (L.set i a') (i:=p / Y.n) (j:=p % Y.n) (by simpa using he) hr;rw[Nat.div_add_mod']at h1 h2;rw[h2,Array.getElem?_setIfInBounds];by_cases ei:p / Y.n=i
  ·have hg:(L.set i a').getD (p / Y.n) Y.z=a':=by rw[ei];simp[hi]
   rw[hg,hc];by_cases ef:p % Y.n=f
   ·have:i*Y.n+f=p:=by rw[←ei,←ef];exact Nat.div_add_mod' p Y.n
    rw[if_pos this,ef,List.getElem?_set_self (by rw[Y.hn];exact hf)];simp[Y.size];omega
   ·have:¬i*Y.n+f=p:=fun q=>ef (by rw[←q,Nat.mul_add_mod_self_right,Nat.mod_eq_of_lt hf])
    rw[if_neg this,h1,ei,List.getElem?_set_ne (Ne.symm ef)]
  ·have hg:(L.set i a').getD (p / Y.n) Y.z=L.getD (p / Y.n) Y.z:=by
    simp only[gD,List.getElem?_set_ne (Ne.symm ei)]
   have:¬i*Y.n+f=p:=fun q=>ei (by rw[←q,Nat.mul_comm,Nat.mul_add_div hp,Nat.div_eq_of_lt hf,Nat.add_zero])
   rw[hg,if_neg this,h1]
 ·rw[Array.getElem?_eq_none (by simp[Y.size];omega),Array.getElem?_eq_none (by rw[Y.size,List.length_set];omega)]
structure SzP(w:World)(e:Ending)(w':World):Prop where
 ex:∃r:Int,e=.returned (.int .i64 r)∧r≤1048576∧-9223372036854775808≤r
 bel:Bl w w'
structure aMK(w:World)(n:Nat)(e:Ending)(w':World):Prop where
 ex:∃r:Int,e=.returned (.int .i64 r)∧(0≤r→n≤1048576)
 bel:Bl w w'
theorem wZ(o:TO)(L:Int)(w:World)(h0:0≤L∧L≤1048576)(h1:o.2.2.1.size≤9223372036854775807)(h2:o.2.2.2.size≤9223372036854775807):
  Calls Tryz.prog 31 #[.agg #[.int .i64 o.1,.int .i64 o.2.1,.string o.2.2.1,.string o.2.2.2],.int .i64 L] w (SzP w):=by
 obtain⟨kind,tree,key,val⟩:=o;simp only at h1 h2 ⊢;obtain⟨pb,hpb⟩:=eZ (w.heap.size);obtain⟨w1,hw1⟩:=eZ (w.alloc (.cells #[.int .i64 kind,.int .i64 tree,.string key,.string val] 53));have B1:=bAl hw1;have k1:=iNw hw1 hpb;have e2:w1.cell? ⟨pb,2,none⟩=some (.string key):=k1.c rfl;have e3:w1.cell? ⟨pb,3,none⟩=some (.string val):=k1.c rfl;by_cases q1:L -(key.size:Int)<0
 ·go_enter Tryz.func31,Tryz.ntmps31
  go_wp2
  refine bodyPost_ret (v:=.int .i64 (-1)) (by simp[results,Tryz.results31,go_sem]) rfl ?_;exact⟨⟨-1,rfl,by omega,by omega⟩,B1⟩
 ·by_cases q2:L -(key.size:Int) -(val.size:Int)<0
  ·go_enter Tryz.func31,Tryz.ntmps31
   go_wp2
   refine bodyPost_ret (v:=.int .i64 (-1)) (by simp[results,Tryz.results31,go_sem]) rfl ?_;exact⟨⟨-1,rfl,by omega,by omega⟩,B1⟩
  ·go_enter Tryz.func31,Tryz.ntmps31
   go_wp2
   refine bodyPost_ret (v:=.int .i64 (L -(key.size:Int) -(val.size:Int))) (by simp[results,Tryz.results31,go_sem]) rfl ?_;exact⟨⟨_,rfl,by omega,by omega⟩,B1⟩
theorem aKP{w:World}{u:Value}{l:List TO}(h:RdL w u l)(hl:0<l.length):∃g o c,u=.slice (some ⟨g,o,none⟩) l.length c∧g<w.heap.size∧∀(w':World) (i:Nat),(w'.heap[g]?=w.heap[g]?)→i<l.length→w'.cell? ⟨g,o+i*4,none⟩=some (.int .i64 (l.getD i yO.z).1)∧w'.cell? ⟨g,o+i*4+1,none⟩=some (.int .i64 (l.getD i yO.z).2.1)∧w'.cell? ⟨g,o+i*4+2,none⟩=some (.string (l.getD i yO.z).2.2.1)∧w'.cell? ⟨g,o+i*4+3,none⟩=some (.string (l.getD i yO.z).2.2.2):=by
 obtain⟨a,c,e,hc⟩:=h;obtain⟨g,o,rfl,hg,hx⟩:=hc hl;refine⟨g,o,c,e,hg,fun w' i he hi=>?_⟩;have hw:∀k,w'.cell? ⟨g,k,none⟩=w.cell? ⟨g,k,none⟩:=fun k=>by simp[World.cell?,he]
 rw[hw,hw,hw,hw];exact hx i hi
theorem mB(l:List TO)(v:Value)(w:World)(hv:RdL w v l)(hm:l.length≤9223372036854775807)(hz:∀o∈l,o.2.2.1.size≤9223372036854775807∧o.2.2.2.size≤9223372036854775807):
  Calls Tryz.prog 7 #[v,.int .i64 1048576] w (aMK w l.length):=by
 obtain⟨va,vc,hve⟩:=hv.len;have HV:=aA (aI hv hve);subst hve;clear hv;by_cases h0:l.length≤1048576
 ·have h0i:¬(1048576 -(l.length:Int))<0:=by omega
  go_enter Tryz.func7,Tryz.ntmps7
  go_wp2
  go_loopw [1,5] (fun L i wr=>∃(k:Nat) (q:Int),k≤l.length∧i=.int .i64 k∧L=.int .i64 q∧0≤q∧q≤1048576∧Bl w wr) (fun _ i _=>l.length -(intOf i).toNat)
  case atStart=>exact⟨0,_,by omega,rfl,rfl,by omega,by omega,bQ _ _⟩
  case round=>
   obtain⟨k,q,hk,rfl,rfl,hq0,hq1,hb⟩:=hrel;by_cases hlt:k<l.length
   ·obtain⟨g,o,cc,hve,hgw,hcell⟩:=aKP HV.out.1 (by omega)
    simp only[Value.slice.injEq,true_and]at hve;obtain⟨rfl,rfl⟩:=hve;have hki:(k:Int) <(l.length:Int):=by omega
    obtain⟨x0,x1,x2,x3⟩:=hcell wr k (hb.block g hgw) hlt;have hzo:=hz (l.getD k yO.z) (by rw[gD,gE hlt];exact List.getElem_mem hlt);have HSZ:=aA (wZ (l.getD k yO.z) q wr ⟨hq0,hq1⟩ hzo.1 hzo.2);generalize l.getD k yO.z=op at *;obtain⟨kind,tree,key,val⟩:=op;simp only at x0 x1 x2 x3 HSZ;clear hcell hzo;go_wp2_with fail;refine HSZ.out.mono ?_;rintro e w2 ⟨⟨r,rfl,hr1,hr2⟩,hb2⟩;have hb02:=hb.trans (hb2.mono hb.size);by_cases hr:r<0
    ·go_wp2
     refine bodyPost_ret (v:=.int .i64 (-1)) (by simp[results,Tryz.results7,go_sem]) rfl ?_;exact⟨⟨-1,rfl,fun _=>h0⟩,hb02⟩
    ·go_wp2
     go_roundw
     case rel=>exact⟨k+1,r,by omega,by go_num,rfl,by omega,by omega,hb02⟩
     case measure=>simp[intOf];omega
   ·have hki:¬(k:Int) <(l.length:Int):=by omega
    go_wp2
    refine bodyPost_ret (v:=.int .i64 q) (by simp[results,Tryz.results7,go_sem]) rfl ?_;exact⟨⟨q,rfl,fun _=>h0⟩,hb⟩
 ·have h0i:(1048576 -(l.length:Int))<0:=by omega
  go_enter Tryz.func7,Tryz.ntmps7
  go_wp2
  refine bodyPost_ret (v:=.int .i64 (-1)) (by simp[results,Tryz.results7,go_sem]) rfl ?_;exact⟨⟨-1,rfl,fun q=>absurd q (by omega)⟩,bQ _ _⟩
end Go.Proofs.YtaahkgkdpnnhhaaGreat
namespace Go.Proofs.YtaahkgkdpnnhhaaGreat
open Go.ChangeShapes Go.WideShapes Go.ChangeAt Go.RowKit Go.Deep Go.Joins
theorem aJH:Tryz.prog.cellsOf 53=4:=by kernel_rfl
theorem xG:Tryz.prog.cellsOf 2=1:=by kernel_rfl
theorem qS:Tryz.prog.cellsOf 9=1:=by kernel_rfl
theorem aAG{H:Type}{enc:TypeId×Value→H}{w:World}{base fuel:Nat}{cs:List Value}{y:DataW H×List MemPlace}(h:DataW.trod enc Tryz.prog w base (fun _=>true) true fuel 22 cs=some y):
  ∃a cap rs,cs=[.slice a (List.length rs) cap]∧rs.length≤9223372036854775807∧RdL w (.slice a rs.length cap) rs∧∀o∈rs,o.2.2.1.size≤9223372036854775807∧o.2.2.2.size≤9223372036854775807:=by
 rcases open_slice Tryz.underlying22 h with⟨hcs,_⟩ | ⟨a,len,cap,m,n,D,Pl,rfl,hb,hl,hm,hmm,_,hx⟩
 ·exact⟨none,0,[],hcs,by simp,⟨_,_,rfl,fun h=>by simp at h⟩,by simp⟩
 ·have hml:m=cap:=by simpa using hmm
  have each:∀i,i<len→∃p:TO,(p.2.2.1.size≤9223372036854775807∧p.2.2.2.size≤9223372036854775807)∧w.cell? (a.add (i*4))=some (.int .i64 p.1)∧w.cell? ((a.add (i*4)).add 1)=some (.int .i64 p.2.1)∧w.cell? ((a.add (i*4)).add 2)=some (.string p.2.2.1)∧w.cell? ((a.add (i*4)).add 3)=some (.string p.2.2.2):=fun i hi=>by
   obtain⟨cs',h1,h2⟩:=hx i (by omega);rw[aJH]at h1;obtain⟨_,hlen,hc⟩:=World.cells?_some h1;match cs',hlen with
   | [c0,c1,c2,c3],_=>
    obtain⟨y0,y1,y2,y3,k,_,_,e0,e1,e2,e3⟩:=trod_struct4 Tryz.underlying53 h2;have e0':DataW.trod enc Tryz.prog w base (fun _=>true) true k 2 [c0]=some y0:=by simpa [xG,qS] using e0
    have e1':DataW.trod enc Tryz.prog w base (fun _=>true) true k 2 [c1]=some y1:=by simpa [xG,qS] using e1
    have e2':DataW.trod enc Tryz.prog w base (fun _=>true) true k 9 [c2]=some y2:=by simpa [xG,qS] using e2
    have e3':DataW.trod enc Tryz.prog w base (fun _=>true) true k 9 [c3]=some y3:=by simpa [xG,qS] using e3
    obtain⟨q,hq,_,_⟩:=DataW.trod_int Tryz.underlying2 e0';obtain⟨q2,hq2,_,_⟩:=DataW.trod_int Tryz.underlying2 e1';obtain⟨q3,hq3,_,s3⟩:=DataW.trod_string Tryz.underlying9 e2';obtain⟨q4,hq4,_,s4⟩:=DataW.trod_string Tryz.underlying9 e3';simp only[List.cons.injEq,and_true]at hq hq2 hq3 hq4;subst hq hq2 hq3 hq4;have c0':=hc 0 (by omega);have c1':=hc 1 (by omega);have c2':=hc 2 (by omega);have c3':=hc 3 (by omega);simp only[List.getElem?_cons_zero,List.getElem?_cons_succ,Addr.add_zero']at c0' c1' c2' c3';exact⟨(q,q2,q3,q4),⟨oY s3,oY s4⟩,c0',c1',c2',c3'⟩
  obtain⟨f,hf⟩:=choose_lt each;have hget:∀i,i<len→((List.range len).map f).getD i yO.z=f i:=fun i hi=>by simp[hi]
  have hsz:((List.range len).map f).length=len:=by simp
  refine⟨some a,cap,(List.range len).map f,by rw[hsz],by rw[hsz];exact oY (by omega),⟨some a,cap,by rw[hsz],fun hp=>?_⟩,fun o ho=>?_⟩
  ·rw[hsz]at hp
   have hsp:a.spot=none:=by
    obtain⟨_,e0,_⟩:=hf 0 hp;rw[Nat.zero_mul,Addr.add_zero']at e0;exact World.cell?_spot e0
   obtain⟨b,off,spot⟩:=a;simp only at hsp;subst hsp;refine⟨b,off,rfl,?_,fun i hi=>?_⟩
   ·obtain⟨_,e0,_⟩:=hf 0 hp
    rw[Nat.zero_mul,Addr.add_zero']at e0;exact World.block_lt_of_cell? _ _ e0
   ·rw[hsz]at hi
    obtain⟨_,e0,e1,e2,e3⟩:=hf i hi;simp only[Addr.add_lit]at e0 e1 e2 e3;rw[hget i hi];exact⟨e0,e1,e2,e3⟩
  ·obtain⟨i,hi,rfl⟩:=List.mem_map.1 ho
   exact(hf i (List.mem_range.1 hi)).1
theorem aCR{H:Type}{enc:TypeId×Value→H}{w:World}{base b0:Nat}{r:Reach}{v:Value}{d:DataW H}{p:List MemPlace}(hv:Value.okWide Tryz.prog w r b0 22 v)(h:DataW.Trod enc Tryz.prog w base (fun _=>true) true 22 v d p):
  ∃a cap rs,v=.slice a (List.length rs) cap∧rs.length≤9223372036854775807∧RdL w v rs∧∀o∈rs,o.2.2.1.size≤9223372036854775807∧o.2.2.2.size≤9223372036854775807:=by
 obtain⟨a,len,cap,rfl⟩:=okWide_slice Tryz.underlying22 hv;obtain⟨fuel,hf⟩:=h;obtain⟨a',cap',ss,he,h1,h2,h3⟩:=aAG hf;simp[Value.cells]at he;obtain⟨rfl,rfl,rfl⟩:=he;exact⟨a,cap,ss,rfl,h1,h2,h3⟩
