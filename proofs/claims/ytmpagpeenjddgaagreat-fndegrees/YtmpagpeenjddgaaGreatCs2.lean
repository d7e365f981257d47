import Derived.Laws.BytesString
import Derived.Lib.Strings
import Derived.Test.YtmpagpeenjddgaaGreatCs1
set_option maxHeartbeats 9999999
set_option maxRecDepth 99999
set_option linter.all false
namespace Go.Proofs.YtmpagpeenjddgaaGreat
open Go.RowKit Fo
variable{i:Nat}{f:fZ}
abbrev o0:TO:=(0,0,.empty,.empty)
abbrev a0:An:=(0,0,.empty)
def xE(o:TO)(a:An)(r:List Int):List Int:=if a.1≠0 then r else if o.1=3 then r++[a.2.1]else if o.1=4 then r.filter (fun x=>decide (x≠o.2.1))else r
def mI(l:List TO)(a:List An):Nat->List Int
 | 0=>[0]
 | i+1=>xE (l.getD i o0) (a.getD i a0) (mI l a i)
theorem pU{α:Type}{l:List α}(z:α)(h:i<l.length):l.take (i+1)=l.take i++[l.getD i z]:=by
 rw[List.take_add_one,gD,gE h];rfl
theorem aKI(f:fZ)(l m:List TO):fJ f (l++m)=fJ f l++fJ (gX f l) m:=by
 induction l generalizing f with
 | nil=>rfl
 | cons p l ih=>exact congrArg _ (ih _)
theorem aEI(f:fZ)(l:List TO)(h:i<l.length):(fJ f l).getD i a0=(doM (gX f (l.take i)) (l.getD i o0).1 (l.getD i o0).2.1 (l.getD i o0).2.2.1 (l.getD i o0).2.2.2).2:=by
 have b:=List.take_append_drop (i+1) l;have a:=aKI f (l.take (i+1)) (l.drop (i+1));rw[b]at a;have c:(fJ f (l.take i)).length=i:=by rw[gQ,List.length_take];omega
 rw[a,gD,List.getElem?_append_left (by rw[gQ,List.length_take];omega),pU o0 h,(lN _ _ _).2,List.getElem?_append_right (by omega),c,Nat.sub_self];rfl
theorem aMD{l:List (Int×Int)}(d:∀i j,i<j->j<l.length->(l.getD i (0,0)).1 <(l.getD j (0,0)).1){t:Nat}(ht:t<l.length):(delE l t).map Prod.fst=(l.map Prod.fst).filter (fun x=>decide (x≠(l.getD t (0,0)).1)):=by
 have k:l.getD t (0,0)=l[t]:=by rw[gD,gE ht];rfl
 have e:l=l.take t++l[t] :: l.drop (t+1):=by rw[List.getElem_cons_drop,List.take_append_drop]
 have f:((l.take t).map Prod.fst).filter (fun x=>decide (x≠(l.getD t (0,0)).1))=(l.take t).map Prod.fst:=List.filter_eq_self.2 fun x c=>by
  obtain⟨p,b,rfl⟩:=List.mem_map.1 c;obtain⟨i,a,rfl⟩:=List.mem_iff_getElem.1 b;have hi':i<t:=by simp at a;omega
  have:=d i t hi' ht
  rw[gD,gE (by omega)]at this;simp only[Option.getD_some]at this;simp only[List.getElem_take,decide_eq_true_eq];omega
 have g:((l.drop (t+1)).map Prod.fst).filter (fun x=>decide (x≠(l.getD t (0,0)).1))=(l.drop (t+1)).map Prod.fst:=List.filter_eq_self.2 fun x c=>by
  obtain⟨p,b,rfl⟩:=List.mem_map.1 c;obtain⟨i,a,rfl⟩:=List.mem_iff_getElem.1 b;have hi':t+1+i<l.length:=by simp at a;omega
  have:=d t (t+1+i) (by omega) hi'
  rw[gD (i:=t+1+i),gE hi']at this;simp only[Option.getD_some]at this;simp only[List.getElem_drop,decide_eq_true_eq];omega
 have h:(l.map Prod.fst).filter (fun x=>decide (x≠(l.getD t (0,0)).1))=((l.take t++l[t] :: l.drop (t+1)).map Prod.fst).filter (fun x=>decide (x≠(l.getD t (0,0)).1)):=by rw[<-e]
 rw[h,List.map_append,List.map_cons,List.filter_append,List.filter_cons,f,g,k];simp[delE]
theorem aBF{tree:Int}{key val:ByteArray}(h:(aV f 4 tree key val).2=0):atT f tree=some (aV f 4 tree key val).1:=by
 revert h
 unfold aV;split
 ·intro h;first | omega | simp at h
 ·split
  ·rename_i a;intro _;omega
  ·split
   ·intro h;simp at h
   ·rename_i t ht
    split
    ·intro h;simp at h
    ·intro _;exact ht
theorem aOC(h:Inv f)(o:TO):(doM f o.1 o.2.1 o.2.2.1 o.2.2.2).1.r.map Prod.fst=xE o (doM f o.1 o.2.1 o.2.2.1 o.2.2.2).2 (f.r.map Prod.fst):=by
 obtain⟨k,tree,key,val⟩:=o;have ht:=nL h (kind:=k) (tree:=tree) (key:=key) (val:=val);obtain⟨l,n,_⟩:=h.hOf ht;have d:∀a:An,(a.1≠0\/(k≠3/\k≠4))->xE (k,tree,key,val) a (f.r.map Prod.fst)=f.r.map Prod.fst:=fun a e=>by
  unfold xE;rcases e with e | ⟨e,s⟩
  ·rw[if_pos e]
  ·rw[if_neg (show ¬(k,tree,key,val).1=3 from e),if_neg (show ¬(k,tree,key,val).1=4 from s)]
   split<;>rfl
 simp only
 unfold doM;split
 ·rename_i x
  rw[d _ (.inr ⟨by omega,by omega⟩)];unfold cQ;split
  ·rfl
  ·split<;>rfl
 ·unfold opM
  split
  ·rename_i e;rw[d _ (.inl e)]
  ·rename_i e
   have q:(aV f k tree key val).2=0:=by omega
   split
   ·rename_i i
    rw[d _ (.inr ⟨by omega,by omega⟩)];unfold kQ;split
    ·rfl
    ·rename_i g y m
     split
     ·rfl
     ·obtain⟨p,a,b,c⟩:=xO l n m;exact c.ids
   ·split
    ·rename_i i
     rw[d _ (.inr ⟨by omega,by omega⟩)];unfold kV;split
     ·rfl
     ·rename_i v t
      have u:=jM l.ok t;split
      ·rfl
      ·rename_i g m
       split
       ·rfl
       ·obtain⟨p,a,b,c⟩:=pR l n u m;exact c.ids
    ·split
     ·rename_i i
      unfold kP;split
      ·rw[d _ (.inl (by simp))]
      ·simp[xE,i,cS]
     ·split
      ·rename_i i
       unfold mG;split
       ·rw[d _ (.inl (by simp))]
       ·subst i
        obtain⟨_,_,_,_,w,_⟩:=nT h ht (by omega) l.ok;have j:=(mP (aBF q)).2;simp only[w,xE];rw[aMD h.ids ht];simp only[ne_eq,not_true,if_false,if_true];rw[if_neg (by omega)];unfold rid at j;rw[j]
      ·rename_i r j
       rw[d _ (.inr ⟨r,j⟩)];unfold mH;split<;>rfl
theorem aJO(h:Inv f)(b:VE f)(a:f.r.map Prod.fst=[0])(l:List TO):∀i,i<=l.length->mI l (fJ f l) i=(gX f (l.take i)).r.map Prod.fst
 | 0,_=>a.symm
 | i+1,c=>by
  unfold mI;rw[aJO h b a l i (by omega),aEI f l (by omega),pU o0 (by omega),(lN _ _ _).1];exact(aOC (kZ h b _).inv _).symm
end Go.Proofs.YtmpagpeenjddgaaGreat
namespace Go.Proofs.YtmpagpeenjddgaaGreat.Fo
end Go.Proofs.YtmpagpeenjddgaaGreat.Fo
namespace Go.Proofs.YtmpagpeenjddgaaGreat
open Go.RowKit
def txB(zs:List Int):ByteArray:=zs.foldl (fun r n=>r.push (UInt8.ofNat n.toNat)) .empty
theorem aGG(r:ByteArray)(x:UInt8):(r.push x).data.toList=r.data.toList++[x]:=by
 cases r;simp[ByteArray.push]
theorem aBU(zs:List Int):∀r:ByteArray,(zs.foldl (fun r n=>r.push (UInt8.ofNat n.toNat)) r).data.toList=r.data.toList++zs.map fun n=>UInt8.ofNat n.toNat:=by
 induction zs with
 | nil=>intro r;simp
 | cons z l ih=>intro r;rw[List.foldl_cons,ih,aGG];simp
theorem aKT(zs:List Int):(txB zs).data.toList=zs.map fun n=>UInt8.ofNat n.toNat:=by
 rw[txB,aBU];rfl
theorem yS{w:World}{a:Option Addr}{n cap:Nat}{zs:List Int}(h:Bts w (.slice a n cap) zs)(o:0<n):(convert 22 9 (.slice a n cap)).run Tryz.prog w=.ok (.string (txB zs)) w:=by
 obtain⟨_,_,f,k⟩:=h.shape;simp only[Value.slice.injEq]at f;obtain⟨rfl,rfl,rfl⟩:=f;obtain⟨b,off,rfl,g⟩:=k o;rw[run_convert_bytes_string _ 22 9 5 _ _ _ Tryz.underlying22 Tryz.underlying5 Tryz.underlying9];rw[run_bytesToString _ _ zs.length cap zs ?_]
 ·rfl
 ·have m:=run_loadCells_list (P:=Tryz.prog) w ⟨b,off,none⟩ (zs.map (Value.int .u8)) (fun j v c=>by
   have d:j<zs.length:=by
    by_cases l:j<zs.length
    ·exact l
    ·simp[show zs.length<=j by omega]at c
   have e:(({block:=b,off:=off,spot:=none}:Addr).add j)=⟨b,off+j,none⟩:=by
    unfold Addr.add;by_cases i:j=0<;>simp[i]
   rw[e,g j d];simp only[List.getElem?_map,gE d,Option.map_some,sJ]at c;simp[<-c,d])
  simpa using m
abbrev St2:=Nat×Int
def dtN(zs:List Int)(p:St2)(mx:Nat):Nat:=if 0<nxV zs (nxS zs p) 3/\3<nxV zs p (mx+1)then(nxV zs p (mx+1)).toNat % 4 else(nxV zs p (mx+1)).toNat
def dtL(zs:List Int)(p:St2):Nat->ByteArray×St2
 | 0=>(.empty,p)
 | k+1=>((dtL zs p k).1++txB [nxV zs (dtL zs p k).2 256],nxS zs (dtL zs p k).2)
def dtR(zs:List Int)(p:St2)(mx:Nat):ByteArray×St2:=dtL zs (nxS zs (nxS zs p)) (dtN zs p mx)
theorem lO(l:List Int):(txB l).size=l.length:=by
 rw[Lib.size_eq,aKT,List.length_map]
theorem zA(zs:List Int)(p:St2)(k:Nat):(dtL zs p k).1.size=k:=by
 induction k with
 | zero=>rfl
 | succ k ih=>rw[dtL,ByteArray.size_append,ih,lO];rfl
theorem aIL(zs:List Int)(p:St2)(a:Nat)(b:a<=12):dtN zs p a<=a:=by
 have h:=bW zs p (n:=(a:Int)+1) (by omega) (by omega);unfold dtN;split<;>omega
theorem aIM(zs:List Int)(p:St2)(a:Nat)(b:a<=12):(dtR zs p a).1.size<=a:=by
 rw[dtR,zA];exact aIL zs p a b
theorem eU(w:World)(o:Obj):Bl w (w.alloc o):=(bQ _ _).alloc (nR _) _
theorem aIC(w:World)(v:Int)(d:0<=v/\v<256)(g:Nat)(b:g=w.heap.size):(convert 22 9 (sL g 0 1 1)).run Tryz.prog (w.alloc (.cells #[.int .u8 v] 5))=.ok (.string (txB [v])) (w.alloc (.cells #[.int .u8 v] 5)):=by
 have a:Bts (w.alloc (.cells #[.int .u8 v] 5)) (sL g 0 1 1) [v]:=by
  refine⟨fun i=>?_,some ⟨g,0,none⟩,1,rfl,fun _=>⟨g,0,rfl,fun i c=>?_⟩⟩
  ·match i with
   | 0=>simpa using d
   | i+1=>simp
  ·have:i=0:=by simpa using c
   subst this;rw[World.cell?_alloc_at _ _ _ _ (by simp[b])];rfl
 exact yS a (by omega)
theorem xA(base g:Nat)(a:Option Addr)(c:Nat)(zs:List Int)(p:St2)(b:Nat)(V:b<=12)(w:World)(I:dQ base g a c zs p w):
  Calls Tryz.prog 64 #[pT g 0,iV b] w fun e w'=>e=.returned (.string (dtR zs p b).1)/\dQ base g a c zs (dtR zs p b).2 w'/\Frm (·=g) w w':=by
 have E:Hid (dtR zs p b=dtL zs (nxS zs (nxS zs p)) (dtN zs p b)):=rfl;have r:Hid (dtN zs p b=if 0<nxV zs (nxS zs p) 3/\3<nxV zs p (b+1)then(nxV zs p (b+1)).toNat % 4 else(nxV zs p (b+1)).toNat):=rfl;have U:=bW zs p (n:=(b:Int)+1) (by omega) (by omega);have s:Hid (dtN zs p b<=b):=aIL zs p b V;have ng:IntKind.i64.wrap ((b:Int)+1)=(b:Int)+1:=IntWalk.i64_in _ ⟨by omega,by omega⟩;obtain⟨n,y⟩:∃n:Nat,dtN zs p b=n:=⟨_,rfl⟩;obtain⟨d,h⟩:∃d,Hid (nxS zs (nxS zs p)=d):=⟨_,rfl⟩;rw[E.out,y,h.out];rw[y]at r s;go_enter Tryz.func64,Tryz.ntmps64;go_wp2_with fail;refine(bA base g a c zs p ((b:Int)+1) (by omega) (by omega) _ I).mono ?_;rintro e w1 ⟨rfl,G,L⟩;go_wp2_with fail;refine(bA base g a c zs _ 3 (by decide) (by decide) _ G).mono ?_;rintro e N ⟨rfl,z,K⟩;have B:=L.trans K;rw[h.out]at z;have pq:Hid (dQ base g a c zs d N):=z;have sq:Hid (Frm (·=g) w N):=B;clear I G L K z B E ng;generalize nxV zs (nxS zs p) 3=q at *;generalize nxV zs p (b+1)=f at *;have F:Hid (n=if 0<q/\3<f then f.toNat % 4 else f.toNat):=r.out;have ZW:n<=12:=by have:=s.out;omega
 clear r s y h;have R:(¬0<q)\/(0<q/\¬3<f)\/(0<q/\3<f):=by omega
 rcases R with x | ⟨x,H⟩ | ⟨x,H⟩
 all_goals
  first
   | (have u:f=(n:Int):=(by rw[F.out,if_neg (by omega)];omega);subst u)
   | (have u:f.tmod 4=(n:Int):=(by rw[F.out,if_pos ⟨x,H⟩,Int.tmod_eq_emod_of_nonneg U.1];omega);have G8:IntKind.i64.wrap (f.tmod 4)=(n:Int):=(by rw[u];exact IntWalk.i64_in _ ⟨by omega,by omega⟩))
  go_wp2
  go_loopw [6,7] (fun t i wr=>∃k:Nat,k<=n/\i=iV k/\t=.string (dtL zs d k).1/\dQ base g a c zs (dtL zs d k).2 wr/\Frm (·=g) w wr) (fun _ i _=>n -(intOf i).toNat)
  case atStart=>exact⟨0,Nat.zero_le _,rfl,rfl,pq.out,sq.out⟩
  case round=>
   obtain⟨k,hk,rfl,rfl,j,o⟩:=hrel;by_cases ai:k<n
   ·have Z:(k:Int) <(n:Int):=by omega
    have l:Hid (dtL zs d (k+1)=((dtL zs d k).1++txB [nxV zs (dtL zs d k).2 256],nxS zs (dtL zs d k).2)):=rfl;have T:=zA zs d k;have J:=bW zs (dtL zs d k).2 (n:=256) (by decide) (by decide);obtain⟨t,ht⟩:=eZ ((dtL zs d k).1);obtain⟨A,Q⟩:=eZ ((dtL zs d k).2);rw[ht]at T l |-;rw[Q]at j l J;go_wp2_with fail;refine(bA base g a c zs A 256 (by decide) (by decide) _ j).mono ?_;rintro e m ⟨rfl,M,C⟩;have D:=o.trans C;generalize nxV zs A 256=v at *;have uh:=aIC m v J m.heap.size rfl;have Y:IntKind.u8.wrap v=v:=IntWalk.u8_in _ ⟨by omega,by omega⟩;have X:(txB [v]).size=1:=lO [v];have ro:∀W:World,(Op.stringOp .add t (txB [v])).run Tryz.prog W=.ok (.string (t++txB [v])) W:=fun W=>run_string_add_sum (P:=Tryz.prog) (w:=W) t (txB [v]) (by omega);have O:Hid (dQ base g a c zs (nxS zs A) (m.alloc (.cells #[.int .u8 v] 5))):=M.below (eU _ _);have S:Hid (Frm (·=g) w (m.alloc (.cells #[.int .u8 v] 5))):=D.trans (Frm.aa (eU _ _));clear M C D j o;go_wp2;go_roundw
    case rel=>exact⟨k+1,by omega,by go_num,by rw[l.out],by rw[l.out];exact O.out,S.out⟩
    case measure=>simp[intOf];omega
   ·have Z:¬(k:Int) <(n:Int):=by omega
    obtain rfl:k=n:=by omega
    go_wp2
    go_ret
    exact⟨rfl,j,o⟩
theorem rQ(w:World)(v u:Int)(e:0<=v/\v<256)(d:0<=u/\u<256)(g:Nat)(a:g=w.heap.size):(convert 22 9 (sL g 0 2 2)).run Tryz.prog (w.alloc (.cells #[.int .u8 v,.int .u8 u] 5))=.ok (.string (txB [v,u])) (w.alloc (.cells #[.int .u8 v,.int .u8 u] 5)):=by
 have b:Bts (w.alloc (.cells #[.int .u8 v,.int .u8 u] 5)) (sL g 0 2 2) [v,u]:=by
  refine⟨fun i=>?_,some ⟨g,0,none⟩,2,rfl,fun _=>⟨g,0,rfl,fun i c=>?_⟩⟩
  ·match i with
   | 0=>simpa using e
   | 1=>simpa using d
   | i+2=>simp
  ·have:i=0\/i=1:=by simp at c;omega
   rcases this with rfl | rfl
   ·rw[World.cell?_alloc_at _ _ _ _ (by simp[a])];rfl
   ·rw[World.cell?_alloc_at _ _ _ _ (by simp[a])];rfl
 exact yS b (by omega)
def ris(i:Int):ByteArray:=txB [(97+i / 90) % 256,33+i % 90]
theorem aJY(i:Int):(ris i).size=2:=lO _
theorem jY(i:Int)(a:0<=i)(h1:i<=1048576)(w:World):Calls Tryz.prog 42 #[iV i] w fun e w'=>e=.returned (.string (ris i))/\Bl w w':=by
 have b:i.tdiv 90=i / 90:=Int.tdiv_eq_ediv_of_nonneg a;have c:i.tmod 90=i % 90:=Int.tmod_eq_emod_of_nonneg a;have d:IntKind.i64.wrap (i / 90)=i / 90:=IntWalk.i64_in _ ⟨by omega,by omega⟩;have f:IntKind.i64.wrap (i % 90)=i % 90:=IntWalk.i64_in _ ⟨by omega,by omega⟩;have g:IntKind.i64.wrap (97+i / 90)=97+i / 90:=IntWalk.i64_in _ ⟨by omega,by omega⟩;have h:IntKind.i64.wrap (33+i % 90)=33+i % 90:=IntWalk.i64_in _ ⟨by omega,by omega⟩;have k:IntKind.u8.wrap (97+i / 90)=(97+i / 90) % 256:=by simp[IntKind.wrap,IntKind.signed,IntKind.bits]
 have l:IntKind.u8.wrap (33+i % 90)=33+i % 90:=IntWalk.u8_in _ ⟨by omega,by omega⟩;have j:=rQ w ((97+i / 90) % 256) (33+i % 90) (by omega) (by omega) w.heap.size rfl;go_enter Tryz.func42,Tryz.ntmps42;go_wp2;go_ret;exact⟨rfl,eU _ _⟩
def dkR(zs:List Int)(p:St2):ByteArray×St2:=if nxV zs p 30=0 then(.empty,nxS zs p)else if nxV zs p 30=1 then dtR zs (nxS zs p) 12 else(txB [97+nxV zs (nxS zs p) 10,48+nxV zs (nxS zs (nxS zs p)) 10],nxS zs (nxS zs (nxS zs p)))
theorem aII(zs:List Int)(p:St2):(dkR zs p).1.size<=12:=by
 unfold dkR;split
 ·exact Nat.zero_le _
 ·split
  ·exact aIM _ _ _ (nR _)
  ·rw[show(txB [97+nxV zs (nxS zs p) 10,48+nxV zs (nxS zs (nxS zs p)) 10],nxS zs (nxS zs (nxS zs p))).1=txB [97+nxV zs (nxS zs p) 10,48+nxV zs (nxS zs (nxS zs p)) 10]from rfl,lO];simp
theorem zP(base g:Nat)(a:Option Addr)(c:Nat)(zs:List Int)(p:St2)(w:World)(q:dQ base g a c zs p w):
  Calls Tryz.prog 41 #[pT g 0] w fun e w'=>e=.returned (.string (dkR zs p).1)/\dQ base g a c zs (dkR zs p).2 w'/\Frm (·=g) w w':=by
 have y:=bW zs p (n:=30) (by decide) (by decide);have z:=bW zs (nxS zs p) (n:=10) (by decide) (by decide);have A:=bW zs (nxS zs (nxS zs p)) (n:=10) (by decide) (by decide);have b:Hid (dkR zs p=if nxV zs p 30=0 then(.empty,nxS zs p)else if nxV zs p 30=1 then dtR zs (nxS zs p) 12 else(txB [97+nxV zs (nxS zs p) 10,48+nxV zs (nxS zs (nxS zs p)) 10],nxS zs (nxS zs (nxS zs p)))):=rfl;generalize dkR zs p=R at *;go_enter Tryz.func41,Tryz.ntmps41;go_wp2_with fail;refine(bA base g a c zs p 30 (by decide) (by decide) _ q).mono ?_;rintro e w1 ⟨rfl,f,j⟩;clear q;generalize nxV zs p 30=k at *;by_cases e0:k=0
 ·have d:Hid (R=_):=b.out.trans (if_pos e0)
  clear b;go_wp2;go_ret;rw[d.out];exact⟨rfl,f,j⟩
 ·by_cases o:k=1
  ·have d:Hid (R=_):=(b.out.trans (if_neg e0)).trans (if_pos o)
   clear b;go_wp2_with fail;refine(xA base g a c zs _ 12 (nR _) _ f).mono ?_;rintro e x ⟨rfl,h,i⟩;go_wp2;go_ret;rw[d.out];exact⟨rfl,h,j.trans i⟩
  ·have d:Hid (R=_):=(b.out.trans (if_neg e0)).trans (if_neg o)
   clear b;go_wp2_with fail;refine(bA base g a c zs _ 10 (by decide) (by decide) _ f).mono ?_;rintro e x ⟨rfl,h,i⟩;generalize nxV zs (nxS zs p) 10=u at *;have C:IntKind.i64.wrap (97+u)=97+u:=IntWalk.i64_in _ ⟨by omega,by omega⟩;have D:IntKind.u8.wrap (97+u)=97+u:=IntWalk.u8_in _ ⟨by omega,by omega⟩;go_wp2_with fail;refine(bA base g a c zs _ 10 (by decide) (by decide) _ h).mono ?_;rintro e l ⟨rfl,r,m⟩;generalize nxV zs (nxS zs (nxS zs p)) 10=v at *;have E:IntKind.i64.wrap (48+v)=48+v:=IntWalk.i64_in _ ⟨by omega,by omega⟩;have F:IntKind.u8.wrap (48+v)=48+v:=IntWalk.u8_in _ ⟨by omega,by omega⟩;have B:=rQ l (97+u) (48+v) (by omega) (by omega) l.heap.size rfl;have t:Hid (dQ base g a c zs (nxS zs (nxS zs (nxS zs p))) (l.alloc (.cells #[.int .u8 (97+u),.int .u8 (48+v)] 5))):=r.below (eU _ _);have s:Hid (Frm (·=g) w (l.alloc (.cells #[.int .u8 (97+u),.int .u8 (48+v)] 5))):=((j.trans i).trans m).trans (Frm.aa (eU _ _));clear f h r j i m;go_wp2;go_ret;rw[d.out];exact⟨rfl,t.out,s.out⟩
def tbR(zs:List Int)(p:St2):Int×St2:=if nxV zs p 16=0 then(512,nxS zs p)else if nxV zs p 16=1 then(8+nxV zs (nxS zs p) 4,nxS zs (nxS zs p))else(16+nxV zs (nxS zs p) 120,nxS zs (nxS zs p))
theorem mY(base g:Nat)(a:Option Addr)(c:Nat)(zs:List Int)(p:St2)(w:World)(m:dQ base g a c zs p w):
  Calls Tryz.prog 26 #[pT g 0] w fun e w'=>e=.returned (iV (tbR zs p).1)/\dQ base g a c zs (tbR zs p).2 w'/\Frm (·=g) w w':=by
 have r:=bW zs p (n:=16) (by decide) (by decide);have s:=bW zs (nxS zs p) (n:=4) (by decide) (by decide);have t:=bW zs (nxS zs p) (n:=120) (by decide) (by decide);have b:Hid (tbR zs p=if nxV zs p 16=0 then(512,nxS zs p)else if nxV zs p 16=1 then(8+nxV zs (nxS zs p) 4,nxS zs (nxS zs p))else(16+nxV zs (nxS zs p) 120,nxS zs (nxS zs p))):=rfl;generalize tbR zs p=R at *;go_enter Tryz.func26,Tryz.ntmps26;go_wp2_with fail;refine(bA base g a c zs p 16 (by decide) (by decide) _ m).mono ?_;rintro e w1 ⟨rfl,f,j⟩;clear m;generalize nxV zs p 16=k at *;by_cases e0:k=0
 ·have d:Hid (R=_):=b.out.trans (if_pos e0)
  clear b;go_wp2;go_ret;rw[d.out];exact⟨rfl,f,j⟩
 ·by_cases l:k=1
  ·have d:Hid (R=_):=(b.out.trans (if_neg e0)).trans (if_pos l)
   clear b;go_wp2_with fail;refine(bA base g a c zs _ 4 (by decide) (by decide) _ f).mono ?_;rintro e q ⟨rfl,h,i⟩;generalize nxV zs (nxS zs p) 4=u at *;have o:IntKind.i64.wrap (8+u)=8+u:=IntWalk.i64_in _ ⟨by omega,by omega⟩;go_wp2;go_ret;rw[d.out];exact⟨rfl,h,j.trans i⟩
  ·have d:Hid (R=_):=(b.out.trans (if_neg e0)).trans (if_neg l)
   clear b;go_wp2_with fail;refine(bA base g a c zs _ 120 (by decide) (by decide) _ f).mono ?_;rintro e q ⟨rfl,h,i⟩;generalize nxV zs (nxS zs p) 120=u at *;have o:IntKind.i64.wrap (16+u)=16+u:=IntWalk.i64_in _ ⟨by omega,by omega⟩;go_wp2;go_ret;rw[d.out];exact⟨rfl,h,j.trans i⟩
end Go.Proofs.YtmpagpeenjddgaaGreat
namespace Go.Proofs.YtmpagpeenjddgaaGreat
open Go.RowKit Fo
section
variable (w : World)
theorem r0:(Instr.build 92 #[(0,iV 0),(1,iV 2)]).run Tryz.prog w=.ok (.agg #[iV 0,iV 2]) w:=by kernel_rfl
theorem r1:(Instr.buildSlice 56 1 #[(0,.agg #[iV 0,iV 2])]).run Tryz.prog w=.ok (sL w.heap.size 0 1 1) (w.alloc (.cells #[iV 0,iV 2] 92)):=by kernel_rfl
theorem r2:(Instr.makeMap 64 none).run Tryz.prog w=.ok (.map (some w.heap.size)) (w.alloc (.map #[] 0)):=rfl
theorem r3:(Instr.build 96 #[(0,iV 1)]).run Tryz.prog w=.ok (.agg #[iV 1,.slice none 0 0]) w:=by kernel_rfl
theorem r4:(Instr.box 96 (.agg #[iV 1,.slice none 0 0])).run Tryz.prog w=.ok (pT w.heap.size 0) (w.alloc (.cells #[iV 1,.slice none 0 0] 96)):=by kernel_rfl
theorem r8(n:Nat)(hn:n<=512):(Instr.makeSlice 29 (iV (n:Int)) (iV (n:Int))).run Tryz.prog w=.ok (sL w.heap.size 0 n n) (w.alloc (.cells (dA (List.replicate n 0)) 2)):=by
 have h:=run_make_row' (P:=Tryz.prog) 29 2 (iV 0) 8 Tryz.underlying29 pI rfl .i64 .i64 n (by omega) (by omega) w;have e:madeCells #[iV 0] n=dA (List.replicate n 0):=by
  apply Array.toList_inj.1
  rw[toList_madeCells_one];simp[dA]
 rw[e]at h;exact h
theorem r11:(Instr.buildSlice 29 1 #[(0,iV 3)]).run Tryz.prog w=.ok (sL w.heap.size 0 1 1) (w.alloc (.cells #[iV 3] 2)):=by kernel_rfl
theorem r12(r m c d q n:Nat):(Instr.build 67 #[(0,sL r 0 1 1),(1,iV 1),(2,iV 1),(3,.map (some m)),(4,sL c 0 n n),(5,sL d 0 n n),(6,sL q 0 1 1)]).run Tryz.prog w=.ok (.agg #[sL r 0 1 1,iV 1,iV 1,.map (some m),sL c 0 n n,sL d 0 n n,sL q 0 1 1,.slice none 0 0]) w:=by kernel_rfl
theorem r13(r m c d q n:Nat):(Instr.box 67 (.agg #[sL r 0 1 1,iV 1,iV 1,.map (some m),sL c 0 n n,sL d 0 n n,sL q 0 1 1,.slice none 0 0])).run Tryz.prog w=.ok (pT w.heap.size 0) (w.alloc (.cells #[sL r 0 1 1,iV 1,iV 1,.map (some m),sL c 0 n n,sL d 0 n n,sL q 0 1 1,.slice none 0 0] 67)):=by kernel_rfl
end
theorem dN{P:Program}{o:Oper}{a:Act}{w w':World}{v:Value}{K:Act->World->Prop}{Q:Exit->Act->World->Prop}(h:(execOp a.eval o).run P w=.ok (.value v) w')(b:K (a.put o.dst v) w'):o.wp P a w K Q:=by
 unfold Oper.wp;rw[h];exact b
theorem aMY{P:Program}{o:Oper}{a:Act}{w w':World}{K:Act->World->Prop}{Q:Exit->Act->World->Prop}(h:(execOp a.eval o).run P w=.ok .skip w')(b:K (a.put o.dst undef) w'):o.wp P a w K Q:=by
 unfold Oper.wp;rw[h];exact b
theorem aAO{b b':Nat}{n:Nat}(h:b≠b'):sL b 0 n n≠sL b' 0 n n:=fun e=>by
 simp only[Value.slice.injEq,sJ,Addr.mk.injEq,and_true]at e;exact h e
theorem aOY(a:Array Value)(h:a.size=33):∃x0 x1 x2 x3 x4 x5 x6 x7 x8 x9 x10 x11 x12 x13 x14 x15 x16 x17 x18 x19 x20 x21 x22 x23 x24 x25 x26 x27 x28 x29 x30 x31 x32,a=#[x0,x1,x2,x3,x4,x5,x6,x7,x8,x9,x10,x11,x12,x13,x14,x15,x16,x17,x18,x19,x20,x21,x22,x23,x24,x25,x26,x27,x28,x29,x30,x31,x32]:=by
 obtain⟨l⟩:=a;have b:l.length=33:=by simpa using h
 clear h;rcases l with _ | ⟨x0,_ | ⟨x1,_ | ⟨x2,_ | ⟨x3,_ | ⟨x4,_ | ⟨x5,_ | ⟨x6,_ | ⟨x7,_ | ⟨x8,_ | ⟨x9,_ | ⟨x10,_ | ⟨x11,_ | ⟨x12,_ | ⟨x13,_ | ⟨x14,_ | ⟨x15,_ | ⟨x16,_ | ⟨x17,_ | ⟨x18,_ | ⟨x19,_ | ⟨x20,_ | ⟨x21,_ | ⟨x22,_ | ⟨x23,_ | ⟨x24,_ | ⟨x25,_ | ⟨x26,_ | ⟨x27,_ | ⟨x28,_ | ⟨x29,_ | ⟨x30,_ | ⟨x31,_ | ⟨x32,_ | ⟨y,l⟩⟩⟩⟩⟩⟩⟩⟩⟩⟩⟩⟩⟩⟩⟩⟩⟩⟩⟩⟩⟩⟩⟩⟩⟩⟩⟩⟩⟩⟩⟩⟩⟩⟩
 all_goals first | exact⟨_,_,_,_,_,_,_,_,_,_,_,_,_,_,_,_,_,_,_,_,_,_,_,_,_,_,_,_,_,_,_,_,_,rfl⟩ | (simp at b)
def aLM(n:Nat):List Int:=((List.replicate n 0).set 2 1).set 3 1
def aNU(n:Nat):List Int:=(List.replicate n 0).set 2 1
structure aDH(B n:Nat)(w:World)(f r m p c d q:Nat):Prop where
 fst:w.heap[f]?=some (.cells #[sL r 0 1 1,iV 1,iV 1,.map (some m),sL c 0 n n,sL d 0 n n,sL q 0 1 1,.slice none 0 0] 67 (0,0))
 root:w.heap[r]?=some (.cells #[iV 0,iV 2] 92 (0,0))
 map:aLC w m p
 node:w.heap[p]?=some (.cells #[iV 1,.slice none 0 0] 96 (0,0))
 crq:w.heap[c]?=some (.cells (dA (aNU n)) 2 (0,0))
 cmq:w.heap[d]?=some (.cells (dA (aLM n)) 2 (0,0))
 tab:w.heap[q]?=some (.cells #[iV 3] 2 (0,0))
 hf:B<=f
 hr:B<=r
 hm:B<=m
 hp:B<=p
 hc:B<=c
 hd:B<=d
 hq:B<=q
 cd:c≠d
theorem qP(n:Nat)(hn:8<=n/\n<=512)(w:World):
  Calls Tryz.prog 35 #[iV n] w fun e w'=>∃f r m p c d q,e=.returned (pT f 0)/\aDH w.heap.size n w' f r m p c d q/\Bl w w':=by
 go_enter Tryz.func35,Tryz.ntmps35
 go_wp2_with fail
 refine wp_region_any (by kernel_rfl) ?_;refine aHD (FI w n) ?step ?fin (aBH (aHN (by kernel_rfl))) _ _ _ _ (by simp) ?cl (by kernel_rfl) ?ini
 case cl=>intro k B;exfalso;simp[Array.getElem?_replicate]at B;split at B<;>simp at B
 case ini=>
  refine⟨rfl,rfl,rfl,(bQ _ _).drew,fun k B=>?_,fun B=>?_⟩
  ·exfalso;simp[Array.getElem?_replicate]at B;split at B<;>simp at B
  ·exfalso;simp at B
 case step=>
  intro l a w1 hs y h i o j hnt C G;have F:l.size=15:=hs;have Su:i<15:=by
   by_cases hh:i<15
   ·exact hh
   ·rw[Array.getElem?_eq_none (by simpa using Nat.le_of_not_lt hh)]at j;cases j
  have s:=j;have P:=h.below.size;match i,Su with
  | 0,_=>
   simp only[List.getElem?_toArray,List.getElem?_cons_zero,sJ]at j;subst j;refine eC s rfl (dN (v:=.agg #[iV 0,iV 2]) (w':=w1) (by simp only[execOp,Act.eval,List.map_toArray,List.map_cons,List.map_nil,Sem.run_bind,Sem.run_pure,Result.andThen_ok,r0]) ?_);exact h.next (by kernel_rfl) y s (by omega) F C (by omega) 4 rfl (by omega) (by omega) _ _ (bQ _ _) (rfl) (h.au 0 4 _ (by omega) (by omega) (by omega) (by omega))
  | 1,_=>
   simp only[iA,iB,iC,sJ]at j;subst j;have l0:l.getD 0 false=true:=G {on:=0,ground:=.data} (by simp) rfl;have f0:a.tmps.getD 4 undef=.agg #[iV 0,iV 2]:=h.facts 0 l0;refine eC s rfl (dN (v:=sL w1.heap.size 0 1 1) (w':=(w1.alloc (.cells #[iV 0,iV 2] 92))) (by simp only[execOp,Act.eval,List.map_toArray,List.map_cons,List.map_nil,Sem.run_bind,Sem.run_pure,Result.andThen_ok,f0,r1]) ?_);exact h.next (by kernel_rfl) y s (by omega) F C (by omega) 5 rfl (by omega) (by omega) _ _ (iO w1 _) (⟨_,rfl,P,heap_alloc_new w1 _⟩) (h.au 1 5 _ (by omega) (by omega) (by omega) (by omega))
  | 2,_=>
   simp only[iA,iB,iC,sJ]at j;subst j;refine eC s rfl (dN (v:=.map (some w1.heap.size)) (w':=(w1.alloc (.map #[] 0))) (by simp only[execOp,Option.map_none,Sem.run_bind,Sem.run_pure,Result.andThen_ok,r2]) ?_);exact h.next (by kernel_rfl) y s (by omega) F C (by omega) 6 rfl (by omega) (by omega) _ _ (iO w1 _) (⟨_,rfl,P,⟨_,_,heap_alloc_new w1 _⟩,fun _=>heap_alloc_new w1 _⟩) (h.au 2 6 _ (by omega) (by omega) (by omega) (by omega))
  | 3,_=>
   simp only[iA,iB,iC,sJ]at j;subst j;refine eC s rfl (dN (v:=.agg #[iV 1,.slice none 0 0]) (w':=w1) (by simp only[execOp,Act.eval,List.map_toArray,List.map_cons,List.map_nil,Sem.run_bind,Sem.run_pure,Result.andThen_ok,r3]) ?_);exact h.next (by kernel_rfl) y s (by omega) F C (by omega) 7 rfl (by omega) (by omega) _ _ (bQ _ _) (rfl) (h.au 3 7 _ (by omega) (by omega) (by omega) (by omega))
  | 4,_=>
   simp only[iA,iB,iC,sJ]at j;subst j;have l3:l.getD 3 false=true:=G {on:=3,ground:=.data} (by simp) rfl;have f3:a.tmps.getD 7 undef=.agg #[iV 1,.slice none 0 0]:=h.facts 3 l3;refine eC s rfl (dN (v:=pT w1.heap.size 0) (w':=(w1.alloc (.cells #[iV 1,.slice none 0 0] 96))) (by simp only[execOp,Act.eval,Sem.run_bind,Sem.run_pure,Result.andThen_ok,f3,r4]) ?_);exact h.next (by kernel_rfl) y s (by omega) F C (by omega) 8 rfl (by omega) (by omega) _ _ (iO w1 _) (⟨_,rfl,P,heap_alloc_new w1 _⟩) (h.au 4 8 _ (by omega) (by omega) (by omega) (by omega))
  | 5,_=>
   simp only[iA,iB,iC,sJ]at j;subst j;have V:l.getD 2 false=true:=G {on:=2,ground:=.data} (by simp) rfl;have l4:l.getD 4 false=true:=G {on:=4,ground:=.data} (by simp) rfl;obtain⟨m,A,hm,_,he⟩:=h.facts 2 V;obtain⟨p,S,_⟩:=h.facts 4 l4;have F8:=he C;obtain⟨w2,hr,hN,hu⟩:=aMJ (p:=p) F8;simp only at A S;refine eC s rfl (aMY (w':=w2) (by simp only[execOp,Act.eval,A,S,hr,Sem.run_bind,Sem.run_pure,Result.andThen_ok]) ?_);exact h.ins F C w2 m p A S hm hN hu F8
  | 6,_=>
   simp only[iA,iB,iC,sJ]at j;subst j;have V:l.getD 2 false=true:=G {on:=2,ground:=.data} (by simp) rfl;obtain⟨m,A,_⟩:=h.facts 2 V;simp only at A;refine eC s rfl (dN (v:=.map (some m)) (w':=w1) (by simp only[execOp,Act.eval,Sem.run_pure,A]) ?_);exact h.next (by kernel_rfl) y s (by omega) F C (by omega) 9 rfl (by omega) (by omega) _ _ (bQ _ _) (by show(_:Value)=_;simpa using A.symm) (h.au 6 9 _ (by omega) (by omega) (by omega) (by omega))
  | 7,_=>
   simp only[iA,iB,iC,sJ]at j;subst j;have fa:=h.arg;refine eC s rfl (dN (v:=iV n) (w':=w1) (by simp only[execOp,Act.eval,Sem.run_pure,fa]) ?_);exact h.next (by kernel_rfl) y s (by omega) F C (by omega) 10 rfl (by omega) (by omega) _ _ (bQ _ _) (rfl) (h.au 7 10 _ (by omega) (by omega) (by omega) (by omega))
  | 8,_=>
   simp only[iA,iB,iC,sJ]at j;subst j;have l7:l.getD 7 false=true:=G {on:=7,ground:=.data} (by simp) rfl;have f7:a.tmps.getD 10 undef=iV n:=h.facts 7 l7;refine eC s rfl (dN (v:=sL w1.heap.size 0 n n) (w':=(w1.alloc (.cells (dA (List.replicate n 0)) 2))) (by simp only[execOp,Act.eval,Sem.run_bind,Sem.run_pure,Result.andThen_ok,f7,r8 _ n hn.2]) ?_);exact h.next (by kernel_rfl) y s (by omega) F C (by omega) 11 rfl (by omega) (by omega) _ _ (iO w1 _) (⟨_,rfl,P,heap_alloc_new w1 _⟩) (fun _ gh=>by
    rw[getD_set_ne false (show(8:Nat)≠10 by omega)]at gh;obtain⟨d,x,_,I⟩:=h.facts 10 gh;have f13':a.tmps.getD 13 undef=sL d 0 n n:=x;rw[if_pos rfl,if_neg (by omega),f13'];exact aAO (fun e=>by have:=(Array.getElem?_eq_some_iff.1 I).1;omega))
  | 9,_=>
   simp only[iA,iB,iC,sJ]at j;subst j;have fa:=h.arg;refine eC s rfl (dN (v:=iV n) (w':=w1) (by simp only[execOp,Act.eval,Sem.run_pure,fa]) ?_);exact h.next (by kernel_rfl) y s (by omega) F C (by omega) 12 rfl (by omega) (by omega) _ _ (bQ _ _) (rfl) (h.au 9 12 _ (by omega) (by omega) (by omega) (by omega))
  | 10,_=>
   simp only[iA,iB,iC,sJ]at j;subst j;have l9:l.getD 9 false=true:=G {on:=9,ground:=.data} (by simp) rfl;have J:a.tmps.getD 12 undef=iV n:=h.facts 9 l9;refine eC s rfl (dN (v:=sL w1.heap.size 0 n n) (w':=(w1.alloc (.cells (dA (List.replicate n 0)) 2))) (by simp only[execOp,Act.eval,Sem.run_bind,Sem.run_pure,Result.andThen_ok,J,r8 _ n hn.2]) ?_);exact h.next (by kernel_rfl) y s (by omega) F C (by omega) 13 rfl (by omega) (by omega) _ _ (iO w1 _) (⟨_,rfl,P,heap_alloc_new w1 _⟩) (fun h8 _=>by
    rw[getD_set_ne false (show(10:Nat)≠8 by omega)]at h8;obtain⟨c,u,_,K⟩:=h.facts 8 h8;have Z:a.tmps.getD 11 undef=sL c 0 n n:=u;rw[if_neg (by omega),if_pos rfl,Z];exact aAO (fun e=>by have:=(Array.getElem?_eq_some_iff.1 K).1;omega))
  | 11,_=>
   simp only[iA,iB,iC,sJ]at j;subst j;refine eC s rfl (dN (v:=sL w1.heap.size 0 1 1) (w':=(w1.alloc (.cells #[iV 3] 2))) (by simp only[execOp,Act.eval,List.map_toArray,List.map_cons,List.map_nil,Sem.run_bind,Sem.run_pure,Result.andThen_ok,r11]) ?_);exact h.next (by kernel_rfl) y s (by omega) F C (by omega) 14 rfl (by omega) (by omega) _ _ (iO w1 _) (⟨_,rfl,P,heap_alloc_new w1 _⟩) (h.au 11 14 _ (by omega) (by omega) (by omega) (by omega))
  | 12,_=>
   simp only[iA,iB,iC,sJ]at j;subst j;have l1:l.getD 1 false=true:=G {on:=1,ground:=.data} (by simp) rfl;have l6:l.getD 6 false=true:=G {on:=6,ground:=.data} (by simp) rfl;have l8:l.getD 8 false=true:=G {on:=8,ground:=.data} (by simp) rfl;have T:l.getD 10 false=true:=G {on:=10,ground:=.data} (by simp) rfl;have U:l.getD 11 false=true:=G {on:=11,ground:=.data} (by simp) rfl;have V:l.getD 2 false=true:=y 6 l6 _ rfl {on:=2,ground:=.data} (by simp) rfl;obtain⟨r,M,_⟩:=h.facts 1 l1;obtain⟨m,A,_⟩:=h.facts 2 V;have J:a.tmps.getD 9 undef=a.tmps.getD 6 undef:=h.facts 6 l6;obtain⟨c,u,_⟩:=h.facts 8 l8;obtain⟨d,x,_⟩:=h.facts 10 T;obtain⟨q,z,_⟩:=h.facts 11 U;simp only at M A u x z;rw[A]at J;refine eC s rfl (dN (v:=.agg #[sL r 0 1 1,iV 1,iV 1,.map (some m),sL c 0 n n,sL d 0 n n,sL q 0 1 1,.slice none 0 0]) (w':=w1) (by simp only[execOp,Act.eval,List.map_toArray,List.map_cons,List.map_nil,Sem.run_bind,Sem.run_pure,Result.andThen_ok,M,J,u,x,z,r12]) ?_);exact h.next (by kernel_rfl) y s (by omega) F C (by omega) 15 rfl (by omega) (by omega) _ _ (bQ _ _) (by show(_:Value)=Value.agg _;simp[M,J,u,x,z]) (h.au 12 15 _ (by omega) (by omega) (by omega) (by omega))
  | 13,_=>
   simp only[iA,iB,iC,sJ]at j;subst j;have H:l.getD 12 false=true:=G {on:=12,ground:=.data} (by simp) rfl;have l1:l.getD 1 false=true:=y 12 H _ rfl {on:=1,ground:=.data} (by simp) rfl;have l6:l.getD 6 false=true:=y 12 H _ rfl {on:=6,ground:=.data} (by simp) rfl;have l8:l.getD 8 false=true:=y 12 H _ rfl {on:=8,ground:=.data} (by simp) rfl;have T:l.getD 10 false=true:=y 12 H _ rfl {on:=10,ground:=.data} (by simp) rfl;have U:l.getD 11 false=true:=y 12 H _ rfl {on:=11,ground:=.data} (by simp) rfl;have V:l.getD 2 false=true:=y 6 l6 _ rfl {on:=2,ground:=.data} (by simp) rfl;obtain⟨r,M,_⟩:=h.facts 1 l1;obtain⟨m,A,_⟩:=h.facts 2 V;have J:a.tmps.getD 9 undef=a.tmps.getD 6 undef:=h.facts 6 l6;obtain⟨c,u,_⟩:=h.facts 8 l8;obtain⟨d,x,_⟩:=h.facts 10 T;obtain⟨q,z,_⟩:=h.facts 11 U;simp only at M A u x z;rw[A]at J;have D:a.tmps.getD 15 undef=.agg #[a.tmps.getD 5 undef,iV 1,iV 1,a.tmps.getD 9 undef,a.tmps.getD 11 undef,a.tmps.getD 13 undef,a.tmps.getD 14 undef,.slice none 0 0]:=h.facts 12 H;rw[M,J,u,x,z]at D;refine eC s rfl (dN (v:=pT w1.heap.size 0) (w':=(w1.alloc (.cells #[sL r 0 1 1,iV 1,iV 1,.map (some m),sL c 0 n n,sL d 0 n n,sL q 0 1 1,.slice none 0 0] 67))) (by simp only[execOp,Act.eval,Sem.run_bind,Sem.run_pure,Result.andThen_ok,D,r13]) ?_);exact h.next (by kernel_rfl) y s (by omega) F C (by omega) 16 rfl (by omega) (by omega) _ _ (iO w1 _) (⟨_,_,by show(_:Value)=Value.agg _;simpa using D,rfl,P,heap_alloc_new w1 _⟩) (h.au 13 16 _ (by omega) (by omega) (by omega) (by omega))
  | 14,_=>
   simp only[iA,iB,iC,sJ]at j;subst j;have l13:l.getD 13 false=true:=G {on:=13,ground:=.data} (by simp) rfl;obtain⟨f,cs,_,E,_⟩:=h.facts 13 l13;simp only at E;refine eC s rfl (dN (v:=pT f 0) (w':=w1) (by simp only[execOp,Act.eval,Sem.run_pure,E]) ?_);exact h.next (by kernel_rfl) y s (by omega) F C (by omega) 3 rfl (by omega) (by omega) _ _ (bQ _ _) (by show(_:Value)=_;simpa using E.symm) (h.au 14 3 _ (by omega) (by omega) (by omega) (by omega))
 case fin=>
  intro l a w1 hs h ba;have g:=fun k (B:k<15)=>ba k B;obtain⟨r,M,Aa,qh⟩:=h.facts 1 (g 1 (by omega));obtain⟨p,S,EF,Ck⟩:=h.facts 4 (g 4 (by omega));obtain⟨m,p',A,O,hN⟩:=h.facts 5 (g 5 (by omega));obtain⟨m',N,yo,_⟩:=h.facts 2 (g 2 (by omega));have J:a.tmps.getD 9 undef=a.tmps.getD 6 undef:=h.facts 6 (g 6 (by omega));obtain⟨c,u,dw,K⟩:=h.facts 8 (g 8 (by omega));obtain⟨d,x,F0,I⟩:=h.facts 10 (g 10 (by omega));obtain⟨q,z,vo,i9⟩:=h.facts 11 (g 11 (by omega));have D:a.tmps.getD 15 undef=.agg #[a.tmps.getD 5 undef,iV 1,iV 1,a.tmps.getD 9 undef,a.tmps.getD 11 undef,a.tmps.getD 13 undef,a.tmps.getD 14 undef,.slice none 0 0]:=h.facts 12 (g 12 (by omega));obtain⟨f,cs,L,E,qz,X⟩:=h.facts 13 (g 13 (by omega));have f3:a.tmps.getD 3 undef=a.tmps.getD 16 undef:=h.facts 14 (g 14 (by omega));have td:=h.apart (g 8 (by omega)) (g 10 (by omega));simp only at M A N S O u x z L E;rw[u,x]at td;have vg:c≠d:=fun e=>td (by rw[e]);obtain rfl:m=m':=by rw[A]at N;simpa using N
  obtain rfl:p=p':=by rw[S]at O;simpa using O
  rw[A]at J;rw[M,J,u,x,z,L]at D;obtain rfl:cs=#[sL r 0 1 1,iV 1,iV 1,.map (some m),sL c 0 n n,sL d 0 n n,sL q 0 1 1,.slice none 0 0]:=by simpa using D
  rw[E]at f3;have P:=h.below;obtain⟨tm,df⟩:=a;have BD:df=[]:=h.defers;subst BD;have aw:tm.size=33:=h.size;have MD:tm.getD 0 undef=iV n:=h.arg;have YL:tm.getD 3 undef=pT f 0:=f3;clear h ba g M A N S O J u x z D L E f3 td;obtain⟨x0,x1,x2,x3,x4,x5,x6,x7,x8,x9,x10,x11,x12,x13,x14,x15,x16,x17,x18,x19,x20,x21,x22,x23,x24,x25,x26,x27,x28,x29,x30,x31,x32,rfl⟩:=aOY tm aw;obtain rfl:x0=iV n:=MD;obtain rfl:x3=pT f 0:=YL;clear aw;have Nw:c<w1.heap.size:=(Array.getElem?_eq_some_iff.1 K).1;have hcf:c≠f:=fun e=>by rw[e,X]at K;simp at K
  have Yp:d≠f:=fun e=>by rw[e,X]at I;simp at I
  have Dm:(2:Int) <(n:Int):=by omega
  have EE:(3:Int) <(n:Int):=by omega
  have e4:w1.cell? (aD f 4)=some (sL c 0 n n):=by simp[World.cell?,X]
  have e5:w1.cell? (aD f 5)=some (sL d 0 n n):=by simp[World.cell?,X]
  have ec2:w1.cell? (aD c 2)=some (iV 0):=by simp[World.cell?,K,dA,show 2<n by omega]
  have ecf:w1.frozen? (aD c 2)=false:=frozen_of_row w1 c _ _ _ K;have ed2:w1.cell? (aD d 2)=some (iV 0):=by simp[World.cell?,I,dA,show 2<n by omega]
  have ed3:w1.cell? (aD d 3)=some (iV 0):=by simp[World.cell?,I,dA,show 3<n by omega]
  have edf:w1.frozen? (aD d 2)=false:=frozen_of_row w1 d _ _ _ I;have edf3:w1.frozen? (aD d 3)=false:=frozen_of_row w1 d _ _ _ I;obtain⟨W,Y⟩:=exH (((w1.setCell (aD c 2) (iV 1)).setCell (aD d 2) (iV 1)).setCell (aD d 3) (iV 1));have R:∀k,k≠c->k≠d->W.heap[k]?=w1.heap[k]?:=fun k k1 k2=>by
   rw[Y.out];exact(Below.heap_setCell _ ⟨d,3,none⟩ _ k k2).trans ((Below.heap_setCell _ ⟨d,2,none⟩ _ k k2).trans (Below.heap_setCell _ ⟨c,2,none⟩ _ k k1))
  have O1:∀k cs t,w1.heap[k]?=some (.cells cs t (0,0))->t≠2->k≠c/\k≠d:=fun k cs t B ht=>⟨fun e=>by rw[e,K]at B;simp at B;exact ht B.2.symm,fun e=>by rw[e,I]at B;simp at B;exact ht B.2.symm⟩;have NF:aDH w.heap.size n W f r m p c d q:=by
   have QA:m≠c/\m≠d:=by
    obtain⟨⟨es,c0,Q⟩,_⟩:=hN;exact⟨fun e=>by rw[e,K]at Q;simp at Q,fun e=>by rw[e,I]at Q;simp at Q⟩
   have WR:q≠c/\q≠d:=by
    have eu:∀b,w1.heap[b]?=some (.cells (dA (List.replicate n 0)) 2 (0,0))->q≠b:=fun b hb e=>by
     rw[e,hb]at i9;have Q:=congrArg (fun o=>match o with | some (Obj.cells cs _ _)=>cs.size | _=>0) i9;simp[dA]at Q;omega
    exact⟨eu c K,eu d I⟩
   have FB:=O1 f _ _ X (by decide);have ko:=O1 r _ _ qh (by decide);have GF:=O1 p _ _ Ck (by decide);refine⟨(R f FB.1 FB.2).trans X,(R r ko.1 ko.2).trans qh,?_,(R p GF.1 GF.2).trans Ck,?_,?_,(R q WR.1 WR.2).trans i9,qz,Aa,yo,EF,dw,F0,vo,vg⟩
   ·obtain⟨⟨es,c0,Q⟩,h2⟩:=hN
    exact⟨⟨es,c0,(R m QA.1 QA.2).trans Q⟩,h2.of (R m QA.1 QA.2)⟩
   ·have s1:=heap_setCell_same _ c 2 _ _ (iV 1) K
    have s2:=(Below.heap_setCell _ ⟨d,3,none⟩ (iV 1) c vg).trans ((Below.heap_setCell _ ⟨d,2,none⟩ (iV 1) c vg).trans s1);have e:(dA (List.replicate n 0)).setIfInBounds 2 (iV 1)=dA (aNU n):=by
     apply Array.toList_inj.1
     simp[dA,aNU,List.map_set]
    rw[Y.out,s2,e]
   ·have s0:(w1.setCell (aD c 2) (iV 1)).heap[d]?=some (.cells (dA (List.replicate n 0)) 2 (0,0)):=(Below.heap_setCell _ ⟨c,2,none⟩ _ d (Ne.symm vg)).trans I
    have s1:=heap_setCell_same _ d 2 _ _ (iV 1) s0;have s2:=heap_setCell_same _ d 3 _ _ (iV 1) s1;have e:((dA (List.replicate n 0)).setIfInBounds 2 (iV 1)).setIfInBounds 3 (iV 1)=dA (aLM n):=by
     apply Array.toList_inj.1
     simp[dA,aLM,List.map_set]
    rw[Y.out,s2,e]
  have Fp:Bl w W:=by
   rw[Y.out];exact((P.setCell (p:=aD c 2) dw _).setCell (p:=aD d 2) F0 _).setCell (p:=aD d 3) F0 _
  have Ai:Hid _:=NF;have Wu:Hid _:=Fp;clear NF Fp R O1 hN qh Ck K I i9 X;go_wp2_with fail;go_ret;rw[<-Y.out];exact⟨f,r,m,p,c,d,q,rfl,Ai.out,Wu.out⟩
def vB(f r m p c d:Nat):Nat->Nat:=fun x=>if x=f then 1 else if x=r then 2 else if x=m then 3 else if x=c then 4 else if x=d then 5 else if x=p then cK 2 else 0
def qM(r m p c d q:Nat):Adr:={ra:=r,rj:=[],m:=m,c:=c,d:=d,dj:=[],tv:=sL q 0 1 1,φ:=upd (fun _=>none) 2 (some p),α:=fun _=>none}
theorem aDH.st{B n:Nat}{w:World}{f r m p c d q:Nat}(h:aDH B n w f r m p c d q)(hn:n<=512):St w (vB f r m p c d) f (qM r m p c d q) (aJ n) []/\∀x,x<B->vB f r m p c d x=0:=by
 obtain⟨⟨es,U,j⟩,N⟩:=h.map;have a:∀{x y:Nat} {o s:Obj},w.heap[x]?=some o->w.heap[y]?=some s->o≠s->x≠y:=fun {x y o s} L D M e=>by subst e;rw[L]at D;exact M (Option.some.inj D)
 have K:f≠r:=a h.fst h.root (by simp);have I:f≠m:=a h.fst j (by simp);have H:f≠c:=a h.fst h.crq (by simp);have fd:f≠d:=a h.fst h.cmq (by simp);have J:f≠p:=a h.fst h.node (by simp);have S:r≠m:=a h.root j (by simp);have rc:r≠c:=a h.root h.crq (by simp);have R:r≠d:=a h.root h.cmq (by simp);have T:r≠p:=a h.root h.node (by simp);have O:m≠c:=a j h.crq (by simp);have P:m≠d:=a j h.cmq (by simp);have Q:m≠p:=a j h.node (by simp);have G:c≠p:=a h.crq h.node (by simp);have dp:d≠p:=a h.cmq h.node (by simp);have F:=h.cd;have l:∀{x:Nat} {o:Obj},w.heap[x]?=some o->x<w.heap.size:=fun {x o} e=>(Array.getElem?_eq_some_iff.1 e).1;refine⟨⟨none,[],[],⟨fun k E=>?_,?_,by simp[vB],?_,by simp[vB,qM,Ne.symm K],N,by simp[vB,qM,Ne.symm I,Ne.symm S],?_,by simp[vB,qM,Ne.symm H,Ne.symm rc,Ne.symm O],?_,by simp[vB,qM,Ne.symm fd,Ne.symm R,Ne.symm P,Ne.symm F],fun b V i=>?_,fun b i=>?_,by simp[aJ,qM,maxLen],?_⟩,fun _=>JrL.start _ _⟩,fun x W=>?_⟩
 ·unfold vB at E
  by_cases t:k=f
  ·rw[t];exact l h.fst
  by_cases u:k=r
  ·rw[u];exact l h.root
  by_cases v:k=m
  ·rw[v];exact l j
  by_cases z:k=c
  ·rw[z];exact l h.crq
  by_cases A:k=d
  ·rw[A];exact l h.cmq
  by_cases C:k=p
  ·rw[C];exact l h.node
  simp[t,u,v,z,A,C]at E
 ·have:=h.fst
  simpa [IsC,dH,qM,aJ,aJC,adr] using this
 ·have:=h.root
  simpa [IsC,qM,aJ,cY,aW] using this
 ·exact h.crq
 ·have:=h.cmq
  simpa [IsC,qM,aJ,jG,dA,aLM] using this
 ·simp only[aJ]at i
  split at i
  ·rename_i e
   subst e;cases i;refine⟨p,by simp[qM,aE],by simp[vB,Ne.symm J,Ne.symm T,Ne.symm Q,Ne.symm G,Ne.symm dp],fun g e=>(by cases e),[],⟨by have:=h.node;simpa [IsC,adr,qM] using this,fun g e=>(by cases e),fun _=>⟨rfl,rfl⟩,by simp[maxLen]⟩⟩
  ·cases i
 ·simp only[aJ]at i
  split at i
  ·cases i
  ·rename_i e
   show upd (fun _=>none) 2 (some p) b=none
   exact aC _ _ e
 ·simp[aJ,qM,maxLen];omega
 ·have:=h.hf;have:=h.hr;have:=h.hm;have:=h.hp;have:=h.hc;have:=h.hd
  unfold vB;rw[if_neg (by omega),if_neg (by omega),if_neg (by omega),if_neg (by omega),if_neg (by omega),if_neg (by omega)]
