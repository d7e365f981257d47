import Derived.Test.YtmpagpeenjddgaaGreatFo22
set_option linter.all false
namespace Go.Proofs.YtmpagpeenjddgaaGreat.Fo
theorem aJF(a:Nat->Option Nd)(n:Nat):fK a n<=n:=by
 unfold fK;induction n with
 | zero=>exact nR _
 | succ n ih=>simp only[cY];split<;>omega
structure UC(h:Nat)(f:fZ)(b:Nat):Prop where
 ex:∃(g:fZ) (S:Nat->Prop) (ht E:Nat->Nat),Ab f g S/\IP g ht/\(∀x,x<g.c.length->df g x=((E x:Nat):Int))/\b<g.c.length/\1<=E b/\ht b=h
theorem UC.live{h:Nat}{f:fZ}{b:Nat}(u:UC h f b):∃d,f.n b=some d/\b<f.c.length/\1<=cu f b/\kQ f.c.length d/\(h=0->kids d=[]):=by
 obtain⟨g,S,ht,E,a,i,j,e,m,r⟩:=u;obtain⟨d,l,s,o,-⟩:=kL (h:=h) a i j e m;refine⟨d,o,by rw[a.c];exact e,?_,by rw[a.c];exact i.kb b d l,fun p=>?_⟩
 ·rw[nP a]
  have n:=j b e;unfold df at n;omega
 ·refine List.eq_nil_iff_forall_not_mem.2 fun c k=>?_
  rcases i.ht b d l with⟨q,_⟩ | ⟨_,q⟩
  ·simp[kids,q]at k
  ·have:=q c k;omega
theorem UC.next{h:Nat}{f:fZ}{b:Nat}(u:UC (h+1) f b){d:Nd}(hd:f.n b=some d)(hc:¬0<cu f b-1):(∀pre x post,kids d=pre++x :: post->UC h (unL h pre (dec f b,1)).1 x)/\∀pre post,kids d=pre++post->1<=(unL h pre (dec f b,1)).2/\(unL h pre (dec f b,1)).2<=600:=by
 obtain⟨g,S,ht,E,k,j,w,y,o,N⟩:=u;obtain⟨d',m,O,A,-⟩:=kL (h:=h+1) k j w y o;rw[hd]at A;cases A;rw[nP k b]at hc;obtain⟨F,G,H,K⟩:=lU k j w y o m hc;have l:(freeB g b).c.length=g.c.length:=by simp[freeB]
 have C:∀x,x <(freeB g b).c.length->df (freeB g b) x=(((E x-one b x)+(kids d).count x:Nat):Int):=fun x z=>H x (by rw[l]at z;exact z);have B:∀c∈kids d,c <(freeB g b).c.length/\ht c=h:=fun c i=>⟨by rw[l];exact(j.kb b d m).du i,by
  rcases j.ht b d m with⟨q,_⟩ | ⟨_,q⟩
  ·simp[kids,q]at i
  ·have:=q c i;omega⟩
 have key:∀pre post,kids d=pre++post->Un h (dec f b) (freeB g b) (fun x=>S x\/x=b) ht pre (fun x=>(E x-one b x)+(kids d).count x) (unL h pre (dec f b,1)) 1:=fun pre post e=>
  (aCZ (fun a b c d e f=>wG a b c d e f) pre (E:=fun x=>(E x-one b x)+(kids d).count x) 1 F G C (fun c i=>B c (by rw[e];exact List.mem_append_left _ i)) (fun x=>by rw[e,List.count_append];omega)).2
 refine⟨fun pre x post e=>?_,fun pre post e=>?_⟩
 ·obtain⟨g',p,r,s,t,v,D,-⟩:=key pre (x :: post) e
  obtain⟨I,J⟩:=B x (by rw[e];simp);refine⟨g',_,ht,_,p,r,s,by rw[t];exact I,?_,J⟩;rw[e,List.count_append,List.count_cons_self];omega
 ·obtain⟨g',p,r,s,t,v,D,-⟩:=key pre post e
  have L:=aJF (freeB g b).n (freeB g b).c.length;have M:fK g'.n (freeB g b).c.length<=fK (freeB g b).n (freeB g b).c.length:=by
   unfold fK;have:∀n,cY n (fun x=>if(g'.n x).isSome then 1 else 0)<=cY n (fun x=>if((freeB g b).n x).isSome then 1 else 0):=fun n=>by
    induction n with
    | zero=>exact nR _
    | succ n ih=>
     simp only[cY];rcases v n with q | q
     ·rw[q];omega
     ·rw[q];simp only[Option.isSome_none];split<;>simp_all<;>omega
   exact this _
  have:=j.al
  rw[l]at *;omega
structure UK(f g:fZ):Prop where
 len:g.c.length=f.c.length
 m:g.m=f.m
 cu:∀x,Fo.cu g x<=Fo.cu f x
 n:∀x,g.n x=f.n x\/g.n x=none
theorem UK.refl(f:fZ):UK f f:=⟨rfl,rfl,fun _=>Int.le_refl _,fun _=>.inl rfl⟩
theorem UK.trans{f g k:fZ}(a:UK f g)(b:UK g k):UK f k:=⟨b.len.trans a.len,b.m.trans a.m,fun x=>Int.le_trans (b.cu x) (a.cu x),fun x=>by
 rcases b.n x with q | q
 ·rw[q];exact a.n x
 ·exact .inr q⟩
theorem UK.dec(f:fZ)(b:Nat):UK f (dec f b):=⟨by simp[Fo.dec],rfl,fun x=>by
 show(f.c.set b _).getD x 0<=f.c.getD x 0
 rw[gD,gD,List.getElem?_set];split
 ·rename_i e;subst e
  split
  ·simp only[Option.getD_some];unfold Fo.cu;rw[gD];omega
  ·rename_i a;rw[List.getElem?_eq_none (by omega)];simp
 ·exact Int.le_refl _,fun _=>.inl rfl⟩
theorem UK.delN(f:fZ)(b:Nat):UK f (delN f b):=⟨rfl,rfl,fun _=>Int.le_refl _,fun x=>by
 by_cases e:x=b
 ·exact .inr (by show upd _ _ _ _=_;rw[e,aD])
 ·exact .inl (aC _ _ e)⟩
theorem UK.unname:∀(h:Nat) (f:fZ) (b:Nat),UK f (Fo.unname h f b).1
 | 0,f,b=>by
  unfold Fo.unname;split
  ·exact UK.dec f b
  ·exact(UK.dec f b).trans (UK.delN _ b)
 | h+1,f,b=>by
  unfold Fo.unname;split
  ·exact UK.dec f b
  ·refine UK.trans ?_ (UK.delN _ b)
   have:∀(l:List Nat) (a:fZ×Int),UK a.1 (unL h l a).1:=fun l=>by
    induction l with
    | nil=>intro a;exact UK.refl _
    | cons k l ih=>intro a;rw[lS];exact(UK.unname h a.1 k).trans (ih ((Fo.unname h a.1 k).1,a.2+(Fo.unname h a.1 k).2))
   exact(UK.dec f b).trans (this _ (Fo.dec f b,1))
theorem UK.unL(h:Nat):∀(l:List Nat) (a:fZ×Int),UK a.1 (Fo.unL h l a).1
 | [],a=>UK.refl _
 | k :: l,a=>by rw[lS];exact(UK.unname h a.1 k).trans (UK.unL h l ((Fo.unname h a.1 k).1,a.2+(Fo.unname h a.1 k).2))
theorem aKM(h:Nat)(l:List Nat)(k:Nat)(a:fZ×Int):unL h (l++[k]) a=((unname h (unL h l a).1 k).1,(unL h l a).2+(unname h (unL h l a).1 k).2):=by
 unfold unL;rw[List.foldl_append];rfl
theorem aLL{f:fZ}(h:Inv f){t H:Nat}(ht:t<f.r.length)(n:Ok f.n H (aB f t) none none):UC H (fR f t) (aB f t):=by
 obtain⟨c,a⟩:=h.ic.ip;have p:∀r∈delE f.r t,r∈f.r:=fun r b=>oQ b;have g:IP (fR f t) c:=⟨a.n8,a.al,a.len,⟨a.a8.dead,a.a8.pos⟩,a.two,fun r b=>a.rb r (p r b),a.kb,a.ht⟩;obtain⟨d,m⟩:=h.ic.ao (aP ht);have k:aB f t<f.c.length:=h.ic.lt (show f.n (aB f t)=some d from m);have j:∀x,x <(fR f t).c.length->df (fR f t) x=(one (aB f t) x:Int):=fun x o=>by
  have i:=h.ic.D0 x o;have l:=fT (f.r.map fun r=>r.2.toNat) t x (by simpa using ht);have g1:(f.r.map fun r=>r.2.toNat).getD t 0=aB f t:=by simp[aB,gD,ht]
  rw[g1]at l;have e:rc (fR f t).r x=(delE (f.r.map fun r=>r.2.toNat) t).count x:=by
   unfold rc fR;congr 1;simp[delE,List.map_take,List.map_drop]
  unfold df at i |-;rw[e];show cu f x -((_+deg f.n f.c.length x:Nat):Int)=_
  have:rc f.r x=(f.r.map fun r=>r.2.toNat).count x:=rfl
  omega
 exact⟨fR f t,fun _=>False,c,one (aB f t),⟨rfl,rfl,fun _ _=>rfl,fun _ q=>q.elim,rfl,rfl,rfl,rfl⟩,g,j,k,by rw[cF];exact nR _,zJ a.ht n⟩
theorem aAJ{f:fZ}(h:Inv f){t i:Nat}(ht:t<f.r.length)(b:i<f.r.length)(a:i≠t):f.r.getD i (0,0)≠f.r.getD t (0,0):=fun e=>by
 have c:rid f i=rid f t:=by unfold rid;rw[e]
 rcases Nat.lt_or_gt_of_ne a with q | q
 ·have:=h.ids i t q ht;omega
 ·have:=h.ids t i q b;omega
theorem rK(g:Nat->Nat):∀n:Nat,∃M,∀x,x<n->g x<=M
 | 0=>⟨0,fun x h=>by omega⟩
 | n+1=>by
  obtain⟨M,h⟩:=rK g n;refine⟨M+g n,fun x a=>?_⟩;by_cases e:x=n
  ·subst e;omega
  ·have:=h x (by omega);omega
theorem Inv.sound{f:fZ}(h:Inv f){b:Nat}{d:Nd}(hd:f.n b=some d):∃k lo hi,Ok f.n k b lo hi:=by
 obtain⟨ht,C⟩:=h.ic.ht;obtain⟨M,B⟩:=rK ht f.c.length;have key:∀(m:Nat) (b:Nat) (d:Nd),M-ht b<=m->f.n b=some d->∃k lo hi,Ok f.n k b lo hi:=by
  intro m;induction m with
  | zero=>
   intro b d H hd;have v:=h.ic.lt hd;have w:=h.ic.a1 hd;rw[h.ic.names v]at w;by_cases y:0<rc f.r b
   ·obtain⟨r,p,A⟩:=List.mem_map.1 (List.count_pos_iff.1 y)
    obtain⟨t,n,s⟩:=List.getElem_of_mem p;obtain⟨k,l,_⟩:=h.ok t n;refine⟨k,none,none,?_⟩;have:aB f t=b:=by unfold aB;rw[gD,gE n,s];exact A
    rw[<-this];exact l
   ·have u:0<deg f.n f.c.length b:=by omega
    obtain⟨x,z,c⟩:=iP u;cases a:f.n x with
    | none=>simp[a,bZ]at c
    | some i=>
     rw[a]at c;have g:b∈kids i:=List.count_pos_iff.1 c;rcases C x i a with⟨q,_⟩ | ⟨_,q⟩
     ·simp[kids,q]at g
     ·have:=q b g;have:=B x z;omega
  | succ m ih=>
   intro b d H hd;have v:=h.ic.lt hd;have w:=h.ic.a1 hd;rw[h.ic.names v]at w;by_cases y:0<rc f.r b
   ·obtain⟨r,p,A⟩:=List.mem_map.1 (List.count_pos_iff.1 y)
    obtain⟨t,n,s⟩:=List.getElem_of_mem p;obtain⟨k,l,_⟩:=h.ok t n;refine⟨k,none,none,?_⟩;have:aB f t=b:=by unfold aB;rw[gD,gE n,s];exact A
    rw[<-this];exact l
   ·have u:0<deg f.n f.c.length b:=by omega
    obtain⟨x,z,c⟩:=iP u;cases a:f.n x with
    | none=>simp[a,bZ]at c
    | some i=>
     rw[a]at c;have g:b∈kids i:=List.count_pos_iff.1 c;rcases C x i a with⟨q,_⟩ | ⟨J,q⟩
     ·simp[kids,q]at g
     ·have L:=q b g
      have N:=B x z;obtain⟨k,lo,hi,l⟩:=ih x i (by omega) a;cases k with
      | zero=>obtain⟨es,o,_⟩:=l;rw[a]at o;cases o;simp at J
      | succ k=>
       obtain⟨es,o,_,_,_,F⟩:=l;rw[a]at o;cases o;rw[kids,if_pos rfl]at g;obtain⟨e,D,K⟩:=List.mem_map.1 g;obtain⟨j,G,E⟩:=cO D;have:=(F j G).2;have I:kd es j=b:=by unfold kd;rw[E];exact K
       rw[I]at this;exact⟨k,_,_,this⟩
 exact key _ b d (nR _) hd
theorem Inv.ai{f:fZ}(h:Inv f){b:Nat}{d:Nd}(hd:f.n b=some d):d.2.length<=5:=by
 obtain⟨k,i,g,e⟩:=h.sound hd;obtain⟨d',a,_,c,_⟩:=e.bj;rw[hd]at a;cases a;exact c
theorem oZ{g:Nat->Nat}{m:Nat}:∀{n:Nat},(∀x,x<n->g x<=m)->cY n g<=n*m
 | 0,_=>by simp[cY]
 | n+1,h=>by
  have a:=oZ (n:=n) fun x c=>h x (by omega);have b:=h n (by omega);simp only[cY];rw[Nat.succ_mul];omega
theorem Inv.counts{f:fZ}(h:Inv f)(x:Nat):0<=cu f x/\cu f x<=2576:=by
 by_cases c:x<f.c.length
 ·rw[h.ic.names c]
  have e:rc f.r x<=16:=by
   have:=List.count_le_length (a:=x) (l:=f.r.map fun r=>r.2.toNat)
   have:=h.bq
   unfold rc;simp at *;omega
  have g:deg f.n f.c.length x<=f.c.length*5:=oZ fun y k=>by
   cases b:f.n y with
   | none=>simp[bZ]
   | some d=>
    have:=h.ai b
    have i:=List.count_le_length (a:=x) (l:=kids d);have j:(kids d).length<=d.2.length:=by unfold kids;split<;>simp
    simp only[bZ];omega
  have:=h.ic.al
  omega
 ·rw[wV (by omega)];omega
theorem Ok.spine{nodes:Nat->Option Nd}:∀{h b:Nat} {lo hi:OB},Ok nodes h b lo hi->∀{ht:Nat->Nat},Hts nodes ht->∃l:List Nat,l.length=h+1/\(∀x∈l,ht x<=h/\∃d,nodes x=some d)/\l.Nodup
 | 0,b,lo,hi,k,ht,a=>by
  obtain⟨d,n,_⟩:=k.bj;have:=zJ a k;exact⟨[b],rfl,fun x c=>by simp only[List.mem_singleton]at c;subst c;exact⟨by omega,d,n⟩,by simp⟩
 | h+1,b,lo,hi,k,ht,a=>by
  have t:=zJ a k;obtain⟨es,i,r,j,s,m⟩:=k;have g:0<es.length:=List.length_pos_iff.2 j;obtain⟨l,o,f,p⟩:=Ok.spine (m 0 g).2 a;refine⟨b :: l,by simp[o],fun x c=>?_,List.nodup_cons.2 ⟨fun q=>?_,p⟩⟩
  ·rcases List.mem_cons.1 c with e | e
   ·subst e;exact⟨by omega,_,i⟩
   ·exact⟨by have:=(f x e).1;omega,(f x e).2⟩
  ·have:=(f b q).1;omega
theorem Ok.high{f:fZ}(h:IC f){k b:Nat}{lo hi:OB}(e:Ok f.n k b lo hi):k<f.c.length:=by
 obtain⟨ht,c⟩:=h.ht;obtain⟨l,m,i,j⟩:=e.spine c;have:=few f.c.length l j fun x g=>by
  obtain⟨_,d,a⟩:=i x g;exact h.lt a
 omega
def hgt(nodes:Nat->Option Nd):Nat->Nat->Nat
 | 0,_=>0
 | n+1,b=>match nodes b with
  | some (k,e :: _)=>if k=2 then hgt nodes n (ch e)+1 else 0
  | _=>0
theorem aIP{nodes:Nat->Option Nd}:∀{n h b:Nat} {lo hi:OB},Ok nodes h b lo hi->h<=n->hgt nodes n b=h
 | 0,h,b,lo,hi,k,c=>by
  have:h=0:=by omega
  subst this;rfl
 | n+1,0,b,lo,hi,k,c=>by
  obtain⟨es,a,_⟩:=k;unfold hgt;rw[a];cases es<;>simp
 | n+1,h+1,b,lo,hi,k,c=>by
  obtain⟨es,a,i,f,j,g⟩:=k;unfold hgt;rw[a];cases es with
  | nil=>exact absurd rfl f
  | cons e es=>
   have:=aIP (n:=n) (g 0 (by simp)).2 (by omega)
   simp only[if_pos];have d:kd (e :: es) 0=ch e:=rfl;rw[d]at this;rw[this]
def hOf(f:fZ)(t:Nat):Nat:=hgt f.n 512 (aB f t)
theorem Inv.hOf{f:fZ}(h:Inv f){t:Nat}(ht:t<f.r.length):Wk f t (hOf f t)/\cI f t (hOf f t)/\Fo.hOf f t<512:=by
 obtain⟨H,a,b⟩:=h.wk ht;have c:=a.ok.high h.ic;have:Fo.hOf f t=H:=aIP a.ok (by have:=h.ic.al;omega);rw[this];exact⟨a,b,by have:=h.ic.al;omega⟩
def bG(c:List Int)(p:List Int):List Int:=p.foldl (fun l x=>l.set x.toNat 1) c
theorem jE(p:List Int):∀c:List Int,(bG c p).length=c.length:=by
 induction p with
 | nil=>intro c;rfl
 | cons x p ih=>intro c;show(bG (c.set x.toNat 1) p).length=_;rw[ih];simp
theorem aAN(p:List Int):∀(c:List Int) (i:Nat),(bG c p).getD i 0=c.getD i 0\/((bG c p).getD i 0=1/\(i:Int)∈p.map fun x=>(x.toNat:Int)):=by
 induction p with
 | nil=>intro c i;exact .inl rfl
 | cons x p ih=>
  intro c i;show(bG (c.set x.toNat 1) p).getD i 0=_\/((bG (c.set x.toNat 1) p).getD i 0=_/\_)
  rcases ih (c.set x.toNat 1) i with e | ⟨e,e'⟩
  ·rw[e,eQ]
   by_cases q:x.toNat=i/\x.toNat<c.length
   ·rw[if_pos q];exact .inr ⟨rfl,by rw[List.map_cons,q.1];exact List.mem_cons_self⟩
   ·rw[if_neg q];exact .inl rfl
  ·exact .inr ⟨e,List.mem_cons_of_mem _ e'⟩
def dR(f:fZ)(p:List Int):fZ:={f with m:=bG f.c p,table:=p,gen:=f.gen+1}
theorem Inv.settle{f:fZ}(h:Inv f){p:List Int}(d:∀x∈p,2<=x)(j:f.gen<1099511627776):Inv (dR f p):=by
 have i:IC (dR f p):=⟨h.ic.n8,h.ic.al,jE _ _,h.ic.D0,⟨h.ic.a8.dead,h.ic.a8.pos⟩,h.ic.two,h.ic.rb,h.ic.kb,h.ic.ht⟩;have a:∀b,co (dR f p) b=cu f b\/(co (dR f p) b=1/\(b:Int)∈p.map fun x=>(x.toNat:Int)):=fun b=>aAN p f.c b;refine⟨i,h.ne,h.bq,h.ok,h.ids,h.ek,h.nx,⟨by show 1<=f.gen+1;have:=h.gn;omega,by show f.gen+1<=_;omega⟩,fun b c=>?_,fun b=>?_⟩
 ·rcases a b with e | ⟨e,e'⟩
  ·rw[e];exact(h.ic.a8.dead b).1 (h.ic.two b c)
  ·obtain⟨x,g,q⟩:=List.mem_map.1 e'
   have:=d x g;omega
 ·have:=h.counts b
  rcases a b with e | ⟨e,_⟩<;>rw[e]<;>omega
def aH(n:Nat):fZ:={r:=[(0,2)],next:=1,gen:=1,n:=fun b=>if b=2 then some (1,[])else none,c:=(List.replicate n 0).set 2 1,m:=((List.replicate n 0).set 2 1).set 3 1,table:=[3]}
theorem iR(n i:Nat):(List.replicate n (0:Int)).getD i 0=0:=by
 rw[gD,List.getElem?_replicate];split<;>rfl
theorem Inv.fresh{n:Nat}(z:8<=n)(w:n<=512):Inv (aH n):=by
 have k:∀b,cu (aH n) b=if b=2 then 1 else 0:=fun b=>by
  show((List.replicate n (0:Int)).set 2 1).getD b 0=_
  rw[eQ,iR];by_cases e:b=2
  ·subst e;rw[if_pos ⟨rfl,by simp;omega⟩,if_pos rfl]
  ·rw[if_neg (fun q=>e q.1.symm),if_neg e]
 have l:∀b,co (aH n) b=if b=2\/b=3 then 1 else 0:=fun b=>by
  show(((List.replicate n (0:Int)).set 2 1).set 3 1).getD b 0=_
  rw[eQ,eQ,iR];by_cases e:b=3
  ·subst e;rw[if_pos ⟨rfl,by simp;omega⟩,if_pos (.inr rfl)]
  ·rw[if_neg (fun q=>e q.1.symm)]
   by_cases m:b=2
   ·subst m;rw[if_pos ⟨rfl,by simp;omega⟩,if_pos (.inl rfl)]
   ·rw[if_neg (fun q=>m q.1.symm),if_neg (by omega)]
 have o:(aH n).c.length=n:=by simp[aH]
 have f:∀b d,(aH n).n b=some d->b=2/\d=(1,[]):=fun b d a=>by
  simp only[aH]at a;split at a
  ·rename_i e;cases a;exact⟨e,rfl⟩
  ·cases a
 have s:∀x,deg (aH n).n n x=0:=fun x=>by
  have:deg (aH n).n n x<=n*0:=oZ fun y B=>by
   cases h:(aH n).n y with
   | none=>simp[bZ]
   | some d=>obtain⟨_,rfl⟩:=f y d h;simp[bZ,kids]
  omega
 have v:IC (aH n):=by
  refine⟨by omega,by omega,by simp[aH],fun x A=>?_,⟨fun b=>?_,fun b=>?_⟩,fun b u=>?_,fun r p=>?_,fun b d a=>?_,fun _=>0,fun b d a=>?_⟩
  ·unfold df
   rw[o]at *;rw[k,s];have:rc (aH n).r x=if x=2 then 1 else 0:=by
    show([(2:Int).toNat]:List Nat).count x=_
    rw[List.count_singleton];by_cases e:x=2
    ·subst e;simp
    ·rw[if_neg e];simp;omega
   rw[this];by_cases e:x=2<;>simp[e]
  ·rw[k]
   by_cases e:b=2
   ·subst e;simp[aH]
   ·simp[aH,e]
  ·rw[k];split<;>omega
  ·simp[aH];omega
  ·simp only[aH,List.mem_singleton]at p;subst p;rw[o];exact⟨by decide,by simp;omega⟩
  ·obtain⟨_,rfl⟩:=f b d a;exact .inl rfl
  ·obtain⟨_,rfl⟩:=f b d a;exact .inl ⟨rfl,rfl⟩
 refine⟨v,by simp[aH],by simp[aH],fun t ht=>⟨0,?_,.inl rfl⟩,fun i j C g=>?_,fun i c=>?_,by simp[aH],by simp[aH],fun b u=>?_,fun b=>?_⟩
 ·have:t=0:=by simp[aH]at ht;omega
  subst this;exact⟨[],rfl,⟨fun i j _ g=>by simp at g,fun i c=>by simp at c,fun i c=>by simp at c,by simp⟩,fun i c=>by simp at c⟩
 ·simp[aH]at g;omega
 ·have:i=0:=by simp[aH]at c;omega
  subst this;simp[aH,rid]
 ·rw[l,if_neg (by omega)]
 ·rw[l];split<;>omega
section
variable {f : fZ} {s : Nat -> Nat} {c : List Int} {e : Nat -> Bool} {k : Nat} {Q : List Nat}
theorem J.first{d:Nd}(h:IC f)(b:J f s c e (k :: Q))(hd:f.n k=some d)(n:c.getD k 0=0):J f s (iG c k) (fun y=>e y || y == k) (kids d++Q):=by
 have i:=h.lt hd;have m:k<c.length:=by rw[b.len];exact i
 have g:=fun x=>oC c k x m;have l:∀x,((k :: Q).count x:Nat)=Q.count x+one k x:=fun x=>by simp only[List.count_cons,beq_iff_eq,one]
 have j:e k=false:=by
  cases q:e k with
  | false=>rfl
  | true=>have:=(b.vis k i).1 q;omega
 refine⟨by rw[jU];exact b.len,fun x a=>?_,fun x=>?_,fun x a=>?_,fun x a=>?_⟩
 ·have:=b.eq x a
  rw[l]at this;rw[g,rO i hd j,List.count_append];omega
 ·rw[g];have:=b.pos x;omega
 ·rw[g]
  by_cases q:x=k
  ·subst q;rw[cF];have o:=b.pos x;exact⟨fun _=>by omega,fun _=>by simp⟩
  ·have:(x == k)=false:=by simp[q]
   rw[this,Bool.or_false,fX (Ne.symm q)];have:=b.vis x a;simpa using this
 ·simp only[Bool.or_eq_true,beq_iff_eq]at a
  rcases a with a | a
  ·exact b.live x a
  ·subst a;exact⟨d,hd⟩
theorem J.more(a:J f s c e (k :: Q))(j:k<f.c.length)(l:¬c.getD k 0=0):J f s (iG c k) e Q:=by
 have i:k<c.length:=by rw[a.len];exact j
 have b:=fun x=>oC c k x i;have h:∀x,((k :: Q).count x:Nat)=Q.count x+one k x:=fun x=>by simp only[List.count_cons,beq_iff_eq,one]
 refine⟨by rw[jU];exact a.len,fun x d=>?_,fun x=>?_,fun x d=>?_,a.live⟩
 ·have:=a.eq x d
  rw[h]at this;rw[b];omega
 ·rw[b];have:=a.pos x;omega
 ·rw[b]
  have g:=a.vis x d;by_cases q:k=x
  ·subst q;rw[cF]
   have:=a.pos k
   constructor
   ·intro _;omega
   ·intro _;exact g.2 (by omega)
  ·rw[fX q];simpa using g
theorem aLI(a:Nat->Option Nd)(n:Nat)(e:Nat->Bool)(x:Nat):qP a n e x<=deg a n x:=by
 unfold qP deg;induction n with
 | zero=>exact nR _
 | succ n ih=>
  simp only[cY];have:(if e n=true then(bZ (a n)).count x else 0)<=(bZ (a n)).count x:=by split<;>omega
  omega
theorem J.le{P:List Nat}(h:IC f)(a:J f (rc f.r) c e P)(x:Nat):0<=c.getD x 0/\c.getD x 0<=cu f x:=by
 refine⟨a.pos x,?_⟩;by_cases b:x<f.c.length
 ·have d:=a.eq x b
  have g:=h.names b;have i:=aLI f.n f.c.length e x;omega
 ·rw[wV (by omega),gD,List.getElem?_eq_none (by rw[a.len];omega)];simp
theorem J.start(f:fZ):J f (rc f.r) (List.replicate f.c.length 0) (fun _=>false) (f.r.map fun r=>r.2.toNat):=by
 refine⟨by simp,fun x a=>?_,fun x=>?_,fun x a=>?_,fun x a=>by simp at a⟩
 ·rw[vF,iR];unfold rc;omega
 ·rw[iR];omega
 ·rw[iR];simp
end
end Go.Proofs.YtmpagpeenjddgaaGreat.Fo
namespace Go.Proofs.YtmpagpeenjddgaaGreat.Fo
variable{key val:ByteArray}{e:E3}{k:Int}{a ces es pes ses:List E3}{P:List Nat}{H b c h i j t:Nat}{d:Nd}{hi lo:OB}{f f' g:fZ}
def nV(es:List E3)(key:ByteArray):Nat->Nat
 | 0=>0
 | k+1=>if kl key (ky es k)=true then nV es key k else k
theorem vJ(b:Srt es)(key:ByteArray):∀k,k<=es.length->nV es key k=min k (cLe es key)-1
 | 0,_=>by simp[nV]
 | k+1,h=>by
  have ih:=vJ b key k (by omega);have a:=gH b key (j:=k) (by omega);unfold nV;cases e:kl key (ky es k)with
  | true=>
   have:¬k<cLe es key:=fun q=>by rw[a.2 q]at e;cases e
   rw[if_pos rfl,ih];omega
  | false=>
   have:=a.1 e
   rw[if_neg (by simp)];omega
theorem sF(a:Srt es)(key:ByteArray):nV es key es.length=bI es key:=by
 rw[vJ a key _ (nR _)];have:=wO es key;unfold bI;rw[show min es.length (cLe es key)=cLe es key by omega]
def rI(es:List E3)(key:ByteArray):Nat->Nat
 | 0=>0
 | k+1=>if kl (ky es k) key=true then k+1 else rI es key k
theorem yH(b:Srt es)(key:ByteArray):∀k,k<=es.length->rI es key k=min k (cLt es key)
 | 0,_=>by simp[rI]
 | k+1,h=>by
  have ih:=yH b key k (by omega);have a:=iD b key (j:=k) (by omega);unfold rI;cases e:kl (ky es k) key with
  | true=>
   have:=a.1 e
   rw[if_pos rfl];omega
  | false=>
   have:¬k<cLt es key:=fun q=>by rw[a.2 q]at e;cases e
   rw[if_neg (by simp),ih];omega
theorem yG(a:Srt es)(key:ByteArray):rI es key es.length=cLt es key:=by
 rw[yH a key _ (nR _)];have:=kV es key;omega
theorem aFL(h:∀j,j<es.length->ky es j≠key):fI es key=false:=by
 cases e:fI es key with
 | false=>rfl
 | true=>obtain⟨a,b⟩:=(dK es key).1 e;exact absurd b (h _ a)
theorem aJM(f:Srt es)(b:∀i,i<es.length->(es.getD i e0).2.2=0)(a:i<es.length)(e:ky es i=key):putE es key val=es.set i (key,val,0):=by
 obtain⟨c,d⟩:=kC f a e;unfold putE;rw[if_pos c,d,b i a];have:(es.getD i e0).1=key:=e;rw[this]
theorem aMB(a:Srt es)(h:∀j,j<es.length->ky es j≠key):putE es key val=insE es (rI es key es.length) (key,val,0):=by
 unfold putE;rw[aFL h,yG a];simp
def frB(f:fZ)(gy:Int)(b:Nat):Bool:=decide (2<=b) && (cu f b == 0) && (co f b == 0) && !((b:Int) == gy)
def mM(f:fZ)(gy:Int):Int:=match (List.range f.c.length).find? (frB f gy)with
 | none=>-1
 | some b=>b
theorem aAW{gy:Int}(j:g.c.length=f.c.length)(i:∀b,b<f.c.length->frB f gy b=(decide (2<=b) && (cu g b == 0) && (co g b == 0))):mM f gy=if aF g=0 then -1 else(aF g:Int):=by
 unfold mM aF;rw[j];have:(List.range f.c.length).find? (frB f gy)=(List.range f.c.length).find? (fun b=>decide (2<=b) && (cu g b == 0) && (co g b == 0)):=by
  have c:∀l:List Nat,(∀b∈l,b<f.c.length)->l.find? (frB f gy)=l.find? (fun b=>decide (2<=b) && (cu g b == 0) && (co g b == 0)):=by
   intro l;induction l with
   | nil=>intro _;rfl
   | cons a l ih=>
    intro h;rw[List.find?_cons,List.find?_cons,i a (h a List.mem_cons_self),ih fun b q=>h b (List.mem_cons_of_mem _ q)]
  exact c _ fun b h=>List.mem_range.1 h
 rw[this];cases e:(List.range f.c.length).find? (fun b=>decide (2<=b) && (cu g b == 0) && (co g b == 0))with
 | none=>simp
 | some b=>
  have d:=List.find?_some e;simp only[Bool.and_eq_true,decide_eq_true_eq]at d;have:b≠0:=by omega
  simp[this]
theorem nD(f:fZ):mM f (-1)=if aF f=0 then -1 else(aF f:Int):=aAW rfl fun b _=>by
 unfold frB;have:(((b:Int)) == -1)=false:=by
  rw[beq_eq_false_iff_ne];omega
 rw[this];simp
theorem aCW{q:Nat}(h1:g.c=f.c)(h2:g.m=f.m)(h:q<f.c.length):mM f q=if aF (takeAt g q d)=0 then -1 else(aF (takeAt g q d):Int):=aAW (by simp[takeAt,h1]) fun b i=>by
 have a:cu (takeAt g q d) b=if q=b then 1 else cu f b:=by
  show(g.c.set q 1).getD b 0=_
  rw[h1,eQ];by_cases e:q=b
  ·rw[if_pos ⟨e,h⟩,if_pos e]
  ·rw[if_neg (fun x=>e x.1),if_neg e];rfl
 have c:co (takeAt g q d) b=co f b:=by show g.m.getD b 0=_;rw[h2];rfl
 unfold frB;rw[a,c];by_cases e:q=b
 ·subst e;simp
 ·have:(((b:Int)) ==(q:Int))=false:=by rw[beq_eq_false_iff_ne];omega
  rw[this,if_neg e];simp
def iX(c:List Int):Nat->Nat
 | 0=>0
 | k+1=>iX c k+if 0<c.getD k 0 then 1 else 0
theorem tL(h:IC f):iX f.c f.c.length=fK f.n f.c.length:=by
 have a:∀k,k<=f.c.length->iX f.c k=cY k fun x=>if(f.n x).isSome then 1 else 0:=by
  intro k;induction k with
  | zero=>intro _;rfl
  | succ k ih=>
   intro g;unfold iX cY;rw[ih (by omega)];have c:=h.a8.pos k;have b:=h.a8.dead k;cases e:f.n k with
   | none=>
    have:=b.1 e
    unfold cu at this;rw[this];simp[e]
   | some d=>
    have:cu f k≠0:=fun q=>by have:=b.2 q;rw[e]at this;cases this
    unfold cu at this c;rw[if_pos (by omega)];simp[e]
 exact a _ (nR _)
def dD(f:fZ):Nat->List Nat
 | 0=>[]
 | k+1=>dD f k++if 0<cu f k/\co f k=0 then [k]else []
def dY(f:fZ):Nat:=(dD f f.c.length).length
theorem kY(f:fZ):∀k,(dD f k).length<=k
 | 0=>by simp[dD]
 | k+1=>by
  have:=kY f k
  unfold dD;rw[lP];split<;>simp<;>omega
theorem kZ(f:fZ):∀k x,x∈dD f k↔x<k/\0<cu f x/\co f x=0
 | 0,x=>by simp[dD]
 | k+1,x=>by
  unfold dD;rw[List.mem_append,kZ f k x];split
  ·rename_i h
   simp only[List.mem_singleton];constructor
   ·rintro(⟨a,b⟩ | rfl)
    ·exact⟨by omega,b⟩
    ·exact⟨by omega,h⟩
   ·rintro⟨a,b⟩
    by_cases e:x=k
    ·exact .inr e
    ·exact .inl ⟨by omega,b⟩
  ·rename_i h
   simp only[List.not_mem_nil,or_false];constructor
   ·rintro⟨a,b⟩;exact⟨by omega,b⟩
   ·rintro⟨a,b⟩
    refine⟨?_,b⟩;have:x≠k:=fun e=>h (e▸b);omega
theorem mJ(f:fZ):∀k,(dD f k).Nodup
 | 0=>List.nodup_nil
 | k+1=>by
  unfold dD;refine List.nodup_append.2 ⟨mJ f k,by split<;>simp,fun a d b c e=>?_⟩;have:=((kZ f k a).1 d).1;split at c
  ·simp only[List.mem_singleton]at c;omega
  ·cases c
theorem aKA(i:IC f)(E:∀t,t<f.r.length->∃h,Ok f.n h (aB f t) none none)(hd:f.n b=some d):∃k lo hi,Ok f.n k b lo hi:=by
 obtain⟨ht,D⟩:=i.ht;obtain⟨M,C⟩:=rK ht f.c.length;have key:∀(m:Nat) (b:Nat) (d:Nd),M-ht b<=m->f.n b=some d->∃k lo hi,Ok f.n k b lo hi:=by
  intro m;induction m with
  | zero=>
   intro b d J hd;have w:=i.lt hd;have y:=i.a1 hd;rw[i.names w]at y;by_cases z:0<rc f.r b
   ·obtain⟨r,s,B⟩:=List.mem_map.1 (List.count_pos_iff.1 z)
    obtain⟨t,o,u⟩:=List.getElem_of_mem s;obtain⟨k,n⟩:=E t o;refine⟨k,none,none,?_⟩;have:aB f t=b:=by unfold aB;rw[gD,gE o,u];exact B
    rw[<-this];exact n
   ·have v:0<deg f.n f.c.length b:=by omega
    obtain⟨x,A,c⟩:=iP v;cases a:f.n x with
    | none=>simp[a,bZ]at c
    | some l=>
     rw[a]at c;have g:b∈kids l:=List.count_pos_iff.1 c;rcases D x l a with⟨q,_⟩ | ⟨_,q⟩
     ·simp[kids,q]at g
     ·have:=q b g;have:=C x A;omega
  | succ m ih=>
   intro b d J hd;have w:=i.lt hd;have y:=i.a1 hd;rw[i.names w]at y;by_cases z:0<rc f.r b
   ·obtain⟨r,s,B⟩:=List.mem_map.1 (List.count_pos_iff.1 z)
    obtain⟨t,o,u⟩:=List.getElem_of_mem s;obtain⟨k,n⟩:=E t o;refine⟨k,none,none,?_⟩;have:aB f t=b:=by unfold aB;rw[gD,gE o,u];exact B
    rw[<-this];exact n
   ·have v:0<deg f.n f.c.length b:=by omega
    obtain⟨x,A,c⟩:=iP v;cases a:f.n x with
    | none=>simp[a,bZ]at c
    | some l=>
     rw[a]at c;have g:b∈kids l:=List.count_pos_iff.1 c;rcases D x l a with⟨q,_⟩ | ⟨L,q⟩
     ·simp[kids,q]at g
     ·have O:=q b g
      have P:=C x A;obtain⟨k,lo,hi,n⟩:=ih x l (by omega) a;cases k with
      | zero=>obtain⟨es,p,_⟩:=n;rw[a]at p;cases p;simp at L
      | succ k=>
       obtain⟨es,p,_,_,_,H⟩:=n;rw[a]at p;cases p;rw[kids,if_pos rfl]at g;obtain⟨e,F,N⟩:=List.mem_map.1 g;obtain⟨j,I,G⟩:=cO F;have:=(H j I).2;have K:kd es j=b:=by unfold kd;rw[G];exact N
       rw[K]at this;exact⟨k,_,_,this⟩
 exact key _ b d (nR _) hd
theorem Wk.ai(w:Wk f t H)(hd:f.n b=some d):d.2.length<=5:=by
 obtain⟨k,l,j,g⟩:=aKA w.ic (fun u i=>by
  by_cases e:u=t
  ·subst e;exact⟨H,w.ok⟩
  ·obtain⟨h,a,_⟩:=w.eb u i e;exact⟨h,a⟩) hd
 obtain⟨d',a,_,c,_⟩:=g.bj;rw[hd]at a;cases a;exact c
theorem IC.counts(h:IC f)(n:f.r.length<=16)(he:∀b d,f.n b=some d->d.2.length<=10)(x:Nat):cu f x<=1000000:=by
 by_cases e:x<f.c.length
 ·rw[h.names e]
  have g:rc f.r x<=16:=by
   have:=List.count_le_length (a:=x) (l:=f.r.map fun r=>r.2.toNat)
   unfold rc;simp at *;omega
  have i:deg f.n f.c.length x<=f.c.length*10:=oZ fun y m=>by
   cases c:f.n y with
   | none=>simp[bZ]
   | some d=>
    have:=he y d c
    have j:=List.count_le_length (a:=x) (l:=kids d);have k:(kids d).length<=d.2.length:=by unfold kids;split<;>simp
    simp only[bZ];omega
  have:=h.al
  omega
 ·rw[wV (by omega)];omega
def VL(es:List E3):Prop:=∀e∈es,e.2.2≠0->e.2.1=ByteArray.empty
def VE(f:fZ):Prop:=∀b d,f.n b=some d->VL d.2
theorem VL.nil:VL []:=fun e h=>by cases h
theorem VL.get(h:VL es)(b:i<es.length)(a:(es.getD i e0).2.2≠0):(es.getD i e0).2.1=ByteArray.empty:=h _ (nX b) a
theorem VL.app{b:List E3}(c:VL a)(d:VL b):VL (a++b):=fun e h=>by
 rcases List.mem_append.1 h with q | q
 ·exact c e q
 ·exact d e q
theorem VL.take(b:VL a)(n:Nat):VL (a.take n):=fun e h=>b e (List.mem_of_mem_take h)
theorem VL.drop(b:VL a)(n:Nat):VL (a.drop n):=fun e h=>b e (List.mem_of_mem_drop h)
theorem VL.one(h:e.2.2≠0->e.2.1=ByteArray.empty):VL [e]:=fun x a=>by simp only[List.mem_singleton]at a;subst a;exact h
theorem VL.insE(b:VL a)(i:Nat)(h:e.2.2≠0->e.2.1=ByteArray.empty):VL (insE a i e):=by
 unfold Fo.insE;exact(b.take i).app fun x c=>by
  rcases List.mem_cons.1 c with q | q
  ·subst q;exact h
  ·exact b.drop i x q
theorem VL.delE(b:VL a)(i:Nat):VL (delE a i):=(b.take i).app (b.drop (i+1))
theorem VL.set(b:VL a)(i:Nat)(h:e.2.2≠0->e.2.1=ByteArray.empty):VL (a.set i e):=fun x c=>by
 rcases List.mem_or_eq_of_mem_set c with q | q
 ·exact b x q
 ·subst q;exact h
theorem VE.look(h:VE f)(b:Nat):VL (look f b).2:=by
 unfold Fo.look;cases e:f.n b with
 | none=>exact VL.nil
 | some d=>exact h b d e
theorem VE.upd(h:VE f)(hd:VL d.2)(hn:∀x d',g.n x=some d'->f.n x=some d'\/d'=d):VE g:=fun x d' a=>by
 rcases hn x d' a with q | q
 ·exact h x d' q
 ·rw[q];exact hd
theorem VE.sub(h:VE f)(hn:∀x d',g.n x=some d'->f.n x=some d'):VE g:=fun x d' a=>h x d' (hn x d' a)
theorem VE.setN(h:VE f)(b:Nat)(hd:VL d.2):VE (setN f b d):=h.upd hd fun x d' c=>by
 have a:Fo.upd f.n b (some d) x=some d':=c;by_cases e:x=b
 ·rw[e,aD]at a;cases a;exact .inr rfl
 ·rw[aC _ _ e]at a;exact .inl a
theorem VE.takeAt(h:VE f)(b:Nat)(hd:VL d.2):VE (takeAt f b d):=VE.setN (f:=f) h b hd
theorem VE.freeB(h:VE f)(b:Nat):VE (freeB f b):=h.sub fun x d' c=>by
 have a:Fo.upd f.n b none x=some d':=c;by_cases e:x=b
 ·rw[e,aD]at a;cases a
 ·rw[aC _ _ e]at a;exact a
theorem VE.letGo(h:VE f)(b:Nat):VE (letGo f b):=by
 unfold Fo.letGo;split
 ·exact h.freeB b
 ·exact h
theorem VL.setE(h:VL d.2)(i q:Nat)(hc:(d.2.getD i e0).2.2≠0\/(d.2.getD i e0).2.1=ByteArray.empty):VL (setE d i q).2:=by
 unfold Fo.setE;by_cases a:i<d.2.length
 ·refine h.set i fun _=>?_
  rcases hc with hc | hc
  ·exact h.get a hc
  ·exact hc
 ·show VL (d.2.set i _)
  rw[List.set_eq_of_length_le (by omega)];exact h
theorem VE.setL(h:VE f)(L:Loc)(q:Nat)(hc:∀b i,L=.ai b i->((Fo.look f b).2.getD i e0).2.2≠0):VE (setL f L q):=by
 cases L with
 | inl t=>exact h.sub fun _ _ q=>q
 | inr a=>obtain⟨b,i⟩:=a;exact h.setN b ((h.look b).setE i q (.inl (hc b i rfl)))
theorem VE.shadowAt(h:VE f)(L:Loc)(q:Nat)(hc:∀b i,L=.ai b i->b≠q/\((Fo.look f b).2.getD i e0).2.2≠0):VE (shadowAt f L q):=by
 unfold Fo.shadowAt;refine VE.letGo (VE.setL (h.takeAt q (h.look _)) L q fun b i e=>?_) _;obtain⟨a,c⟩:=hc b i e;have:Fo.look (Fo.takeAt f q (Fo.look f (bK f L))) b=Fo.look f b:=by
  unfold Fo.look;show(Fo.upd f.n q _ b).getD _=_
  rw[aC _ _ a]
 rw[this];exact c
theorem VL.lowK(h:VL es)(key:ByteArray):VL (lowK es key):=by
 unfold Fo.lowK;split
 ·by_cases a:0<es.length
  ·exact h.set 0 fun q=>h.get a q
  ·rw[List.set_eq_of_length_le (by omega)];exact h
 ·exact h
theorem VL.putE(h:VL es)(key val:ByteArray)(a:∀i,i<es.length->(es.getD i e0).2.2=0):VL (putE es key val):=by
 unfold Fo.putE;split
 ·rename_i b
  have:=((dK es key).1 b).1
  exact h.set _ fun q=>absurd (a _ this) q
 ·exact h.insE _ fun q=>absurd rfl q
theorem VE.inner(h:VE f)(a:IC f)(hd:f.n b=some (2,es))(c:i<es.length):es.getD i e0=(ky es i,.empty,(kd es i:Int))/\(es.getD i e0).2.2≠0:=by
 have k:kd es i∈kids (2,es):=aQ c;obtain⟨d',g⟩:=a.af hd k;have l:=a.dx g;have m:=a.ar hd c;have j:(es.getD i e0).2.2=(kd es i:Int):=by unfold kd ch;omega
 have d:(es.getD i e0).2.2≠0:=by omega
 refine⟨?_,d⟩;have:=VL.get (h b _ hd) c d;rw[<-j];have e:(es.getD i e0).2.1=ByteArray.empty:=this;rw[<-e];rfl
theorem tW(a:i<es.length)(h:es.getD i e0=e):es.set i e=es:=by
 refine List.ext_getElem? fun j=>?_;rw[List.getElem?_set];by_cases q:i=j
 ·subst q
  rw[if_pos rfl,if_pos a,<-h,gD,gE a];rfl
 ·rw[if_neg q]
theorem tX(l:IC f)(r:VE f)(j:f.n b=some (2,es))(m:i<es.length)(hd:f.n (kd es i)=some d):
  (own f (kd es i)/\shadow f (.ai b i)=some (f,kd es i)/\es.set i (ky es i,.empty,(kd es i:Int))=es) \/
  (¬own f (kd es i)/\aF f=0/\shadow f (.ai b i)=none) \/
  (¬own f (kd es i)/\aF f≠0/\∃g,shadow f (.ai b i)=some (g,aF f)/\g.r=f.r/\aX f g/\∀x d',g.n x=some d'->(setN (setN f (aF f) d) b (2,es.set i (ky es i,.empty,(aF f:Int)))).n x=some d'):=by
 have k:bK f (.ai b i)=kd es i:=by simp only[bK,aE j];rfl
 obtain⟨n,y⟩:=r.inner l j m;by_cases c:own f (kd es i)
 ·refine .inl ⟨c,?_,tW m n⟩
  unfold shadow;rw[k,if_pos c]
 ·by_cases h:aF f=0
  ·refine .inr (.inl ⟨c,h,?_⟩)
   unfold shadow;rw[k,if_neg c,if_pos h]
  ·refine .inr (.inr ⟨c,h,shadowAt f (.ai b i) (aF f),?_,eO f b i _,aX.shadowAt f _ _,fun x d' a=>?_⟩)
   ·unfold shadow;rw[k,if_neg c,if_neg h]
   ·obtain⟨t,u,v,w⟩:=aO h
    have s:b≠aF f:=fun e=>by have:=l.a1 j;rw[e]at this;omega
    have o:(setL (takeAt f (aF f) (look f (kd es i))) (.ai b i) (aF f)).n x=some d':=by
     unfold shadowAt at a;rw[k]at a;rw[cX]at a;split at a
     ·by_cases e:x=kd es i
      ·rw[e,aD]at a;cases a
      ·rw[aC _ _ e]at a;exact a
     ·exact a
    have q:look (takeAt f (aF f) (look f (kd es i))) b=(2,es):=by
     unfold look;show(upd f.n (aF f) _ b).getD _=_
     rw[aC _ _ s,j];rfl
    have p:setE (2,es) i (aF f)=(2,es.set i (ky es i,.empty,(aF f:Int))):=by
     unfold setE;rw[n]
    have:(setL (takeAt f (aF f) (look f (kd es i))) (.ai b i) (aF f))=setN (takeAt f (aF f) (look f (kd es i))) b (setE (look (takeAt f (aF f) (look f (kd es i))) b) i (aF f)):=rfl
    rw[this,q,p,aE hd]at o;exact o
theorem qV(l:IC f)(ht:t<f.r.length)(hd:f.n (aB f t)=some d):
  (own f (aB f t)/\shadow f (.root t)=some (f,aB f t)/\f.r.set t ((f.r.getD t (0,0)).1,(aB f t:Int))=f.r) \/
  (¬own f (aB f t)/\aF f=0/\shadow f (.root t)=none) \/
  (¬own f (aB f t)/\aF f≠0/\∃g,shadow f (.root t)=some (g,aF f)/\g.r=f.r.set t ((f.r.getD t (0,0)).1,(aF f:Int))/\aX f g/\∀x d',g.n x=some d'->(setN f (aF f) d).n x=some d'):=by
 have c:bK f (.root t)=aB f t:=rfl;by_cases b:own f (aB f t)
 ·refine .inl ⟨b,?_,?_⟩
  ·unfold shadow;rw[c,if_pos b]
  ·have k:0<=(f.r.getD t (0,0)).2:=(l.rb _ (aP ht)).1
   have:((f.r.getD t (0,0)).1,(aB f t:Int))=f.r.getD t (0,0):=by
    unfold aB;rw[Int.toNat_of_nonneg k]
   rw[this];refine List.ext_getElem? fun j=>?_;rw[List.getElem?_set];by_cases q:t=j
   ·subst q
    rw[if_pos rfl,if_pos ht,gD,gE ht];rfl
   ·rw[if_neg q]
 ·by_cases h:aF f=0
  ·refine .inr (.inl ⟨b,h,?_⟩)
   unfold shadow;rw[c,if_neg b,if_pos h]
  ·refine .inr (.inr ⟨b,h,shadowAt f (.root t) (aF f),?_,dL f t _,aX.shadowAt f _ _,fun x d' a=>?_⟩)
   ·unfold shadow;rw[c,if_neg b,if_neg h]
   ·have i:(setL (takeAt f (aF f) (look f (aB f t))) (.root t) (aF f)).n x=some d':=by
     unfold shadowAt at a;rw[c]at a;rw[cX]at a;split at a
     ·by_cases e:x=aB f t
      ·rw[e,aD]at a;cases a
      ·rw[aC _ _ e]at a;exact a
     ·exact a
    have:(setL (takeAt f (aF f) (look f (aB f t))) (.root t) (aF f)).n=(setN f (aF f) (look f (aB f t))).n:=rfl
    rw[this,aE hd]at i;exact i
theorem VE.aj(h:VE f)(k:IC f)(d:f.n b=some (2,es))(n:i<es.length)(a:shadow f (.ai b i)=some (g,c)):VE g:=by
 have m:bK f (.ai b i)=kd es i:=by simp only[bK,aE d];rfl
 unfold shadow at a;rw[m]at a;by_cases l:own f (kd es i)
 ·rw[if_pos l]at a;cases a;exact h
 ·rw[if_neg l]at a
  by_cases j:aF f=0
  ·rw[if_pos j]at a;cases a
  ·rw[if_neg j]at a
   cases a
   obtain⟨q,r,s,t⟩:=aO j;refine h.shadowAt _ _ fun o p e=>?_;cases e;refine⟨fun e=>by have:=k.a1 d;rw[e]at this;omega,?_⟩;rw[aE d];exact(h.inner k d n).2
theorem VE.ak(b:VE f)(a:shadow f (.root t)=some (g,c)):VE g:=by
 unfold shadow at a;by_cases h:own f (bK f (.root t))
 ·rw[if_pos h]at a;cases a;exact b
 ·rw[if_neg h]at a
  by_cases d:aF f=0
  ·rw[if_pos d]at a;cases a
  ·rw[if_neg d]at a
   cases a
   exact b.shadowAt _ _ fun i j e=>by cases e
theorem VE.splitF(b:VE f)(p:Nat)(d:VL pes)(a c:Nat)(k:Int)(hc:VL ces)(m q:Nat)(key:ByteArray):VE (splitF f p pes a c k ces m q key):=
 ((b.setN c (hc.take m)).takeAt q (hc.drop m)).setN p (d.insE _ fun _=>rfl)
theorem VE.growF(g:VE f)(t r:Nat)(k:Int)(he:VL es)(m q a:Nat)(c d:ByteArray):VE (growF f t r k es m q a c d):=by
 refine VE.setL (VE.takeAt (VE.takeAt (g.setN r (he.take m)) q (he.drop m)) a ?_) (.root t) a fun b i e=>by cases e
 exact(VL.one (e:=(c,.empty,(r:Int))) fun _=>rfl).app (VL.one (e:=(d,.empty,(q:Int))) fun _=>rfl)
theorem qH(a:f.n b=some (2,es))(key:ByteArray):stepDown f b key=match shadow (setN f b (2,lowK es key)) (.ai b (bI (lowK es key) key))with
  | none=>none
  | some (g,c)=>if(look g c).2.length=5 then if aF g=0 then none else some (splitF g b (look g b).2 (bI (lowK es key) key) c (look g c).1 (look g c).2 3 (aF g) (ky (look g c).2 3),if kl key (ky (look g c).2 3)=true then c else aF g)else some (g,c):=by
 unfold stepDown;rw[aE a];rfl
theorem dF(l:IC f)(D:VE f)(j:f.n b=some (2,es))(n:i<es.length)(hd:f.n (kd es i)=some d)(h:shadow f (.ai b i)=some (g,c)):
  g.n c=some d/\c≠b/\(∀x,x≠c->x≠b->x≠kd es i->g.n x=f.n x)/\(∀x d',f.n x=some d'->x≠kd es i->x≠c)/\g.n b=some (2,es.set i (ky es i,.empty,(c:Int)))/\c<f.c.length:=by
 have r:bK f (.ai b i)=kd es i:=by simp only[bK,aE j];rfl
 have t:b≠kd es i:=fun e=>l.ag j (by rw[e];exact aQ n);obtain⟨u,I⟩:=D.inner l j n;unfold shadow at h;rw[r]at h;by_cases s:own f (kd es i)
 ·rw[if_pos s]at h;cases h
  exact⟨hd,t.symm,fun _ _ _ _=>rfl,fun _ _ _ q=>q,by rw[tW n u];exact j,l.lt hd⟩
 ·rw[if_neg s]at h
  by_cases o:aF f=0
  ·rw[if_pos o]at h;cases h
  ·rw[if_neg o]at h
   cases h
   obtain⟨F,E,G,H⟩:=aO o;have a:∀x d',f.n x=some d'->x≠aF f:=fun x d' k e=>by have:=l.a1 k;rw[e]at this;omega
   have p:=a b _ j;have w:=a _ _ hd;have z:look (takeAt f (aF f) (look f (kd es i))) b=(2,es):=by
    unfold look;show(upd f.n (aF f) _ b).getD _=_
    rw[aC _ _ p,j];rfl
   have v:setE (2,es) i (aF f)=(2,es.set i (ky es i,.empty,(aF f:Int))):=by
    unfold setE;rw[u]
   have m:∀x,x≠kd es i->(shadowAt f (.ai b i) (aF f)).n x=upd (upd f.n (aF f) (some d)) b (some (2,es.set i (ky es i,.empty,(aF f:Int)))) x:=fun x k=>by
    unfold shadowAt;rw[r,cX];have y:(setL (takeAt f (aF f) (look f (kd es i))) (.ai b i) (aF f)).n=upd (upd f.n (aF f) (some d)) b (some (2,es.set i (ky es i,.empty,(aF f:Int)))):=by
     show(setN (takeAt f (aF f) (look f (kd es i))) b (setE (look (takeAt f (aF f) (look f (kd es i))) b) i (aF f))).n=_
     rw[z,v,aE hd];rfl
    rw[y];split
    ·rw[aC _ _ k]
    ·rfl
   refine⟨?_,p.symm,fun x A B C=>?_,fun x d' k _=>a x d' k,?_,E⟩
   ·rw[m _ w.symm,aC _ _ p.symm,aD]
   ·rw[m x C,aC _ _ B,aC _ _ A]
   ·rw[m b t,aD]
theorem VE.moveF(a:VE f)(p c s:Nat)(k:Int)(h1:VL ces)(h2:VL ses)(h3:VL pes):VE (moveF f p c s k ces ses pes):=((a.setN c h1).setN s h2).setN p h3
theorem VE.mergeF(a:VE f)(p c s:Nat)(k:Int)(h1:VL ces)(h3:VL pes):VE (mergeF f p c s k ces pes):=((a.setN c h1).setN p h3).letGo s
theorem VE.fallF(a:VE f)(t r c:Nat):VE (fallF f t r c):=(a.freeB r).setL (.root t) c fun b i e=>by cases e
theorem VE.fillNext(e:VE g)(m:IC g)(h:g.n b=some (2,es))(l:i+1<es.length)(a:fillNext g b i c=some f'):VE f':=by
 unfold Fo.fillNext at a;rw[aE h]at a;simp only at a;split at a
 ·cases j:shadow g (.ai b (i+1))with
  | none=>rw[j]at a;cases a
  | some p=>
   obtain⟨k,s⟩:=p;rw[j]at a;simp only[sJ]at a;subst a;have f:=e.aj m h l j;obtain⟨d,o⟩:=m.af h (aQ l);obtain⟨_,_,_,_,n,_⟩:=dF m e h l o j;refine f.moveF b c s _ ((f.look c).app ((f.look s).take 1)) ((f.look s).drop 1) ((f.look b).set _ fun q=>?_);rw[aE n,bB _ _ _ _ _ l,if_pos rfl]
 ·simp only[sJ]at a
  subst a;exact e.mergeF b c _ _ ((e.look c).app (e.look _)) ((e b _ h).delE _)
theorem VE.fillLast(e:VE g)(j:IC g)(f:g.n b=some (2,es))(n:i<es.length)(h1:1<=i)(a:fillLast g b i c=some f'):VE f':=by
 unfold Fo.fillLast at a;rw[aE f]at a;simp only at a;have m:i-1<es.length:=by omega
 split at a
 ·cases l:shadow g (.ai b (i-1))with
  | none=>rw[l]at a;cases a
  | some r=>
   obtain⟨k,s⟩:=r;rw[l]at a;simp only[sJ]at a;subst a;have h:=e.aj j f m l;obtain⟨d,p⟩:=j.af f (aQ m);obtain⟨_,_,_,_,o,_⟩:=dF j e f m p l;refine h.moveF b s c _ ((h.look s).take _) (((h.look s).drop _).app (h.look c)) ((h.look b).set _ fun q=>?_);rw[aE o,bB _ _ _ _ _ m,if_neg (by omega)];have:=(e.inner j f n).1;rw[this]
 ·simp only[sJ]at a
  subst a;refine e.mergeF b c _ _ ((e.look _).app (e.look c)) (((e b _ f).set _ fun q=>?_).delE _);have:=(e.inner j f n).1;show(es.getD i e0).2.1=_
  rw[this]
theorem rX(a:g.n b=some (2,es))(hc:g.n (kd es i)=some (k,ces))(c:g.n (kd es (i+1))=some (k,ses))(h2:ses.length=2):
  fillNext g b i (kd es i)=some (mergeF g b (kd es i) (kd es (i+1)) k (ces++ses) (delE es (i+1))):=by
 unfold fillNext;rw[aE a];simp only;rw[aE c,aE hc];exact if_neg (by simp only;omega)
theorem rW(c:IC g)(d:VE g)(a:g.n b=some (2,es))(e:j+1<es.length)(hc:g.n (kd es (j+1))=some (k,ces))(f:g.n (kd es j)=some (k,ses))(h2:ses.length=2):
  fillLast g b (j+1) (kd es (j+1))=some (mergeF g b (kd es (j+1)) (kd es j) k (ses++ces) (delE (es.set (j+1) (ky es j,.empty,(kd es (j+1):Int))) j)):=by
 unfold fillLast;rw[aE a];simp only[Nat.add_sub_cancel];rw[aE f,aE hc];have:=(d.inner c a e).1;rw[this];exact if_neg (by simp only;omega)
theorem uO(j:IC g)(l:VE g)(a:g.n b=some (2,es))(d:i+1<es.length)(hc:g.n (kd es i)=some (k,ces))(e:g.n (kd es (i+1))=some (k,ses))(t:b≠kd es i)(c:kd es i≠kd es (i+1))(h2:2<ses.length):
  fillNext g b i (kd es i)=(shadow g (.ai b (i+1))).map fun p=>moveF p.1 b (kd es i) p.2 k (ces++ses.take 1) (ses.drop 1) (es.set (i+1) (ky ses 1,.empty,(p.2:Int))):=by
 unfold fillNext;rw[aE a];simp only;rw[aE e,if_pos h2];cases h:shadow g (.ai b (i+1))with
 | none=>rfl
 | some m=>
  obtain⟨g',s⟩:=m;obtain⟨n,u,o,q,r,v⟩:=dF j l a d e h;have f:g'.n (kd es i)=some (k,ces):=by
   rw[o _ (q _ _ hc c) t.symm c];exact hc
  simp only[Option.map_some];rw[aE n,aE f,aE r];simp only;rw[List.set_set,bB _ _ _ _ _ d,if_pos rfl]
theorem uN(d:IC g)(e:VE g)(a:g.n b=some (2,es))(m:j+1<es.length)(hc:g.n (kd es (j+1))=some (k,ces))(f:g.n (kd es j)=some (k,ses))(v:b≠kd es (j+1))(c:kd es (j+1)≠kd es j)(h2:2<ses.length):
  fillLast g b (j+1) (kd es (j+1))=(shadow g (.ai b j)).map fun p=>moveF p.1 b p.2 (kd es (j+1)) k (ses.take (ses.length-1)) (ses.drop (ses.length-1)++ces) ((es.set (j+1) (ky ses (ses.length-1),.empty,(kd es (j+1):Int))).set j (ky es j,.empty,(p.2:Int))):=by
 unfold fillLast;rw[aE a];simp only[Nat.add_sub_cancel];rw[aE f,if_pos h2];cases i:shadow g (.ai b j)with
 | none=>rfl
 | some o=>
  obtain⟨g',s⟩:=o;obtain⟨q,w,r,t,u,x⟩:=dF d e a (by omega) f i;have h:g'.n (kd es (j+1))=some (k,ces):=by
   rw[r _ (t _ _ hc c) v.symm c];exact hc
  simp only[Option.map_some];rw[aE q,aE h,aE u];simp only;have n:=(e.inner d a m).1;have l:(es.set j (ky es j,.empty,(s:Int))).getD (j+1) e0=es.getD (j+1) e0:=by rw[bB _ _ _ _ _ (by omega),if_neg (by omega)]
  rw[l,n];have:(es.set j (ky es j,.empty,(s:Int))).set (j+1) (ky ses (ses.length-1),.empty,(kd es (j+1):Int))=(es.set (j+1) (ky ses (ses.length-1),.empty,(kd es (j+1):Int))).set j (ky es j,.empty,(s:Int)):=(List.set_comm _ _ (by omega));rw[this]
theorem Wk.cj(w:Wk g t H)(p:aN g t H P b (h+1) lo hi)(a:g.n b=some (2,es))(l:i<es.length)(c:j<es.length)(E:i≠j)(hc:g.n (kd es i)=some (k,ces))(v:cu g (kd es i)=1):
  ∃ses,g.n (kd es j)=some (k,ses)/\2<=ses.length/\b≠kd es i/\b≠kd es j/\kd es i≠kd es j:=by
 have r:=aQ l;have u:=aQ c;obtain⟨y,s,B,C,D,m⟩:=(p.ok w.ok).1;rw[a]at s;cases s;have o:=(dO hc).1 (m i l).2;obtain⟨⟨z,ses⟩,n⟩:=w.ic.af a u;have q:=(dO n).1 (m j c).2;have A:z=k:=by
  cases h with
  | zero=>have d:=o.1;have f:=q.1;simp only at d f;omega
  | succ h=>have d:=o.1;have f:=q.1;simp only at d f;omega
 subst A;have x:2<=ses.length:=by have:=(m j c).1;unfold sz at this;rw[n]at this;exact this
 refine⟨ses,n,x,fun e=>w.ic.ag a (e▸r),fun e=>w.ic.ag a (e▸u),fun e=>?_⟩;have:=dZ (w.ic.only v a r).2.1 l c e.symm;omega
theorem Wk.cw(w:Wk f t H)(p:aN f t H P b (h+1) lo hi)(hr:cI f t H)(h3:P≠[]->3<=sz f.n b)(x:Mem f.n (h+1) b key)(o:Fo.stepDel f b key=some (g,c)):
  aX f g/\((2<=(look g b).2.length/\delAt (h+1) f t b key=delAt h g t c key/\Wk g t H/\∃P' lo' ap,aN g t H P' c h lo' ap/\(P'≠[]->3<=sz g.n c)/\cI g t H/\Mem g.n h c key) \/
   ((look g b).2.length=1/\b=aB g t/\t<g.r.length/\delAt (h+1) f t b key=delAt h (fallF g t b c) t c key/\∃H',Wk (fallF g t b c) t H'/\aN (fallF g t b c) t H' [] c h none none/\cI (fallF g t b c) t H'/\Mem (fallF g t b c).n h c key)):=by
 have st:=w.stepDel p hr h3 x o;refine⟨st.same,?_⟩;obtain⟨lo',ap,r⟩:=st.path;have d:delAt (h+1) f t b key=if(look g b).2.length=1 then delAt h (fallF g t (aB g t) (kd (look g b).2 0)) t c key else delAt h g t c key:=by
  conv=>lhs;unfold delAt
  rw[o]
 rcases st.many with⟨es,a,i⟩ | ⟨v,e,a,i⟩
 ·left
  have j:(look g b).2.length=es.length:=by rw[aE a]
  rw[if_neg (by omega)]at d;have s:cI g t H:=by
   rcases st.rt hr with q | ⟨_,e,q,_⟩
   ·exact q
   ·rw[a]at q;cases q;simp at i
  exact⟨by omega,d,st.wk,_,lo',ap,r,fun _=>st.spare,s,st.mem⟩
 ·right
  have j:(look g b).2.length=1:=by rw[aE a];rfl
  have y:kd (look g b).2 0=c:=by rw[aE a];exact i
  rw[if_pos j,y]at d;subst v;rcases st.up.top with⟨_,q,B⟩ | ⟨q,_⟩
  ·subst B
   have A:=a;rw[q]at a;have u:cu g (aB g t)=1:=by have:=(st.up.named st.wk.ic st.wk.tl b List.mem_cons_self).1;rw[q]at this;exact this
   have z:cu g (ch e)=1:=by rw[i];exact(r.named st.wk.ic st.wk.tl c List.mem_cons_self).1
   obtain⟨k,l,C,m,D,n⟩:=st.wk.cm a u z;rw[i]at k l C m D n;rw[<-q]at d k l m n;exact⟨j,q,st.wk.tl,d,_,k,l,m,n key st.mem⟩
  ·cases q
theorem Wk.two(p:aN f t H P b (h+1) lo hi)(hr:cI f t H)(h3:P≠[]->3<=sz f.n b)(a:f.n b=some (2,es)):2<=es.length:=by
 by_cases c:P=[]
 ·rcases p.top with⟨_,q,d⟩ | ⟨q,_⟩
  ·rcases hr with hr | hr
   ·omega
   ·rw[<-q]at hr;unfold sz at hr;rw[a]at hr;exact hr
  ·rw[c]at q;cases q
 ·have:=h3 c;unfold sz at this;rw[a]at this;simp only at this;omega
