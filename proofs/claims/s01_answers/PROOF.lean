import PyProof.Rows.All
import Wide.All
import OpenK.AllK
import Wide.FinOn
import PyProof.EqAt
import PyProof.EqKinds
import PyProof.TupleCall
import KE.BitLaws
import Open.SpecLaws
import KE.OsGo
import KE.OsHead
import KE.SpHead
import KE.OsShapes
import PySem.Challenge.RW_dicefights_s01_answers
set_option Elab.async false
set_option linter.all false
set_option maxRecDepth 100000
noncomputable section
namespace Dm
open Vbrgag
def S (f:Nat->Int):List Nat->Int
 |[]=>0
 |c::r=>(c:Int)*f 0+S (fun k=>f (k+1)) r
theorem Ht:∀(l:List Nat),(∀k,k<l.length->f k=g k)->S f l=S g l:=by
 intro l
 induction l generalizing f g with
 |nil=>intro _;rfl
 |cons c r ih=>
  intro h
  show(c:Int)*f 0+_=(c:Int)*g 0+_
  rw[h 0 (by simp),ih (f:=fun k=>f (k+1)) (g:=fun k=>g (k+1)) (fun k hk=>h (k+1) (by simpa using hk))]
theorem fw (f g:Nat->Int):∀(l:List Nat),S (fun k=>f k+g k) l=S f l+S g l:=by
 intro l
 induction l generalizing f g with
 |nil=>rfl
 |cons c r ih=>
  show(c:Int)*(f 0+g 0)+S (fun k=>f (k+1)+g (k+1)) r=((c:Int)*f 0+S (fun k=>f (k+1)) r)+((c:Int)*g 0+S (fun k=>g (k+1)) r)
  rw[ih,Int.mul_add];omega
theorem fQ (x:Int)(f:Nat->Int):∀(l:List Nat),S (fun k=>x*f k) l=x*S f l:=by
 intro l
 induction l generalizing f with
 |nil=>show(0:Int)=x*0;simp
 |cons c r ih=>
  show(c:Int)*(x*f 0)+S (fun k=>x*f (k+1)) r=x*((c:Int)*f 0+S (fun k=>f (k+1)) r)
  rw[ih,Int.mul_add,<-Int.mul_assoc,<-Int.mul_assoc,Int.mul_comm (c:Int) x]
theorem LO:∀(l:List Nat),S (fun _=>0) l=0:=by
 intro l
 induction l with
 |nil=>rfl
 |cons c r ih=>show(c:Int)*0+S (fun _=>0) r=0;rw[ih];simp
theorem Zg (f:Nat->Int):∀(a b:List Nat),S f (addRows a b)=S f a+S f b:=by
 intro a
 induction a generalizing f with
 |nil=>intro b;show S f (addRows [] b)=0+S f b;simp[addRows]
 |cons x a ih=>
  intro b
  cases b with
  |nil=>show S f (addRows (x::a) [])=S f (x::a)+0;simp[addRows]
  |cons y b=>
   show((x+y:Nat):Int)*f 0+S (fun k=>f (k+1)) (addRows a b)=((x:Int)*f 0+S (fun k=>f (k+1)) a)+((y:Int)*f 0+S (fun k=>f (k+1)) b)
   rw[ih];push_cast;rw[Int.add_mul];omega
theorem SW (f:Nat->Int)(x:Nat):∀(b:List Nat),S f (b.map fun y=>x*y)=(x:Int)*S f b:=by
 intro b
 induction b generalizing f with
 |nil=>show(0:Int)=x*0;simp
 |cons y b ih=>
  show((x*y:Nat):Int)*f 0+S (fun k=>f (k+1)) (b.map fun y=>x*y)=(x:Int)*((y:Int)*f 0+S (fun k=>f (k+1)) b)
  rw[ih,Int.mul_add];push_cast;rw[Int.mul_assoc]
theorem bY (f:Nat->Int):∀(a b:List Nat),S f (conv a b)=S (fun i=>S (fun j=>f (i+j)) b) a:=by
 intro a
 induction a generalizing f with
 |nil=>intro b;rfl
 |cons x a ih=>
  intro b
  show S f (addRows (b.map fun y=>x*y) (0::conv a b))=(x:Int)*S (fun j=>f (0+j)) b+S (fun i=>S (fun j=>f (i+1+j)) b) a
  rw[Zg,SW]
  show(x:Int)*S f b+(((0:Nat):Int)*f 0+S (fun k=>f (k+1)) (conv a b))=_
  rw[ih]
  have e1:(fun j=>f (0+j))=f:=by funext j;rw[Nat.zero_add]
  have e2:(fun i=>S (fun j=>f (i+j+1)) b)=(fun i=>S (fun j=>f (i+1+j)) b):=by
   funext i;congr 1;funext j;congr 1;omega
  rw[e1,e2];simp
theorem ja (g:Nat->Nat->Int):∀(a b:List Nat),S (fun i=>S (fun j=>g i j) b) a=S (fun j=>S (fun i=>g i j) a) b:=by
 intro a
 induction a generalizing g with
 |nil=>intro b;show(0:Int)=S (fun _=>0) b;rw[LO]
 |cons x a ih=>
  intro b
  show(x:Int)*S (fun j=>g 0 j) b+S (fun i=>S (fun j=>g (i+1) j) b) a=S (fun j=>(x:Int)*g 0 j+S (fun i=>g (i+1) j) a) b
  rw[fw,fQ,ih (fun i j=>g (i+1) j)]
theorem PZ (f:Nat->Int):∀(a b:List Nat),S f (a++b)=S f a+S (fun k=>f (a.length+k)) b:=by
 intro a
 induction a generalizing f with
 |nil=>intro b;show S f b=0+S (fun k=>f (0+k)) b;simp
 |cons x a ih=>
  intro b
  show(x:Int)*f 0+S (fun k=>f (k+1)) (a++b)=((x:Int)*f 0+S (fun k=>f (k+1)) a)+S (fun k=>f (a.length+1+k)) b
  rw[ih]
  have:(fun k=>f (a.length+k+1))=(fun k=>f (a.length+1+k)):=by funext k;congr 1;omega
  rw[this];omega
theorem Zh (f:Nat->Int):∀(l:List Nat),S f l.reverse=S (fun k=>f (l.length - 1 - k)) l:=by
 intro l
 induction l generalizing f with
 |nil=>rfl
 |cons c r ih=>
  rw[List.reverse_cons,PZ,ih]
  show S (fun k=>f (r.length - 1 - k)) r+((c:Int)*f (r.reverse.length+0)+0)=(c:Int)*f (r.length+1 - 1 - 0)+S (fun k=>f (r.length+1 - 1 - (k+1))) r
  have e:S (fun k=>f (r.length - 1 - k)) r=S (fun k=>f (r.length+1 - 1 - (k+1))) r:=Ht r fun k _=>by congr 1;omega
  rw[e,List.length_reverse]
  show _+((c:Int)*f (r.length)+0)=(c:Int)*f (r.length)+_
  omega
theorem B1 (l:List Nat):sumN l=l.sum:=by
 unfold sumN
 have h:∀(l:List Nat) (z:Nat),l.foldl (fun a b=>a+b) z=z+l.sum:=by
  intro l
  induction l with
  |nil=>intro z;simp
  |cons c r ih=>intro z;rw[List.foldl_cons,ih,List.sum_cons];omega
 rw[h];omega
theorem Rt:∀(l:List Nat),S (fun _=>1) l=(l.sum:Int):=by
 intro l
 induction l with
 |nil=>rfl
 |cons c r ih=>show(c:Int)*1+S (fun _=>1) r=_;rw[ih,List.sum_cons];push_cast;omega
theorem bG (f:Nat->Int):∀(n:Nat) (l:List Nat),S f (l.drop n)=S (fun k=>if n<=k then f (k - n)else 0) l:=by
 intro n
 induction n with
 |zero=>intro l;simp
 |succ n ih=>
  intro l
  cases l with
  |nil=>rfl
  |cons c r=>
   show S f (r.drop n)=(c:Int)*(if n+1<=0 then f (0 - (n+1))else 0)+S (fun k=>if n+1<=k+1 then f (k+1 - (n+1))else 0) r
   rw[ih,if_neg (by omega)]
   have:(fun k=>if n+1<=k+1 then f (k+1 - (n+1))else 0)=(fun k=>if n<=k then f (k - n)else 0):=by
    funext k
    by_cases h:n<=k
    ·rw[if_pos h,if_pos (by omega)];congr 1;omega
    ·rw[if_neg h,if_neg (by omega)]
   rw[this];simp
theorem iH (f:Nat->Int):∀(n:Nat) (l:List Nat),S f (l.take n)=S (fun k=>if k<n then f k else 0) l:=by
 intro n
 induction n generalizing f with
 |zero=>intro l;simp[S,LO]
 |succ n ih=>
  intro l
  cases l with
  |nil=>rfl
  |cons c r=>
   show(c:Int)*f 0+S (fun k=>f (k+1)) (r.take n)=(c:Int)*(if 0<n+1 then f 0 else 0)+S (fun k=>if k+1<n+1 then f (k+1)else 0) r
   rw[ih,if_pos (by omega)]
   have:(fun k=>if k+1<n+1 then f (k+1)else 0)=(fun k=>if k<n then f (k+1)else 0):=by
    funext k
    by_cases h:k<n
    ·rw[if_pos h,if_pos (by omega)]
    ·rw[if_neg h,if_neg (by omega)]
   rw[this]
theorem jb:∀(n:Nat) (l:List Nat),((l.getD n 0:Nat):Int)=S (fun k=>if k=n then 1 else 0) l:=by
 intro n
 induction n with
 |zero=>
  intro l
  cases l with
  |nil=>rfl
  |cons c r=>
   show(c:Int)=(c:Int)*(if 0=0 then 1 else 0)+S (fun k=>if k+1=0 then 1 else 0) r
   have:(fun k:Nat=>if k+1=0 then(1:Int)else 0)=fun _=>0:=by funext k;rw[if_neg (by omega)]
   rw[this,LO];simp
 |succ n ih=>
  intro l
  cases l with
  |nil=>rfl
  |cons c r=>
   show((r.getD n 0:Nat):Int)=(c:Int)*(if 0=n+1 then 1 else 0)+S (fun k=>if k+1=n+1 then 1 else 0) r
   have:(fun k:Nat=>if k+1=n+1 then(1:Int)else 0)=fun k=>if k=n then 1 else 0:=by
    funext k
    by_cases h:k=n
    ·rw[if_pos h,if_pos (by omega)]
    ·rw[if_neg h,if_neg (by omega)]
   rw[ih,this,if_neg (by omega)];simp
theorem SX (f:Nat->Int)(x:Nat):∀(n:Nat) (l:List Nat),n<l.length->S f (l.set n (l.getD n 0+x))=S f l+(x:Int)*f n:=by
 intro n
 induction n generalizing f with
 |zero=>
  intro l h
  cases l with
  |nil=>simp at h
  |cons c r=>
   show((c+x:Nat):Int)*f 0+_=((c:Int)*f 0+_)+(x:Int)*f 0
   push_cast;rw[Int.add_mul];omega
 |succ n ih=>
  intro l h
  cases l with
  |nil=>simp at h
  |cons c r=>
   have h':n<r.length:=by simpa using h
   show(c:Int)*f 0+S (fun k=>f (k+1)) (r.set n (r.getD n 0+x))=((c:Int)*f 0+S (fun k=>f (k+1)) r)+(x:Int)*f (n+1)
   rw[ih _ r h'];omega
theorem FK (f:Nat->Int):∀(n:Nat),S f (List.replicate n 0)=0:=by
 intro n
 induction n generalizing f with
 |zero=>rfl
 |succ n ih=>show((0:Nat):Int)*f 0+S (fun k=>f (k+1)) (List.replicate n 0)=0;rw[ih];simp
theorem Vq:∀(a b:List Nat),a.length=b.length->(∀f,S f a=S f b)->a=b:=by
 intro a
 induction a with
 |nil=>intro b h _;cases b with|nil=>rfl|cons _ _=>simp at h
 |cons x a ih=>
  intro b h hf
  cases b with
  |nil=>simp at h
  |cons y b=>
   have h0:=hf (fun k=>if k=0 then 1 else 0)
   have z:(fun k:Nat=>if k+1=0 then(1:Int)else 0)=fun _=>0:=by funext k;rw[if_neg (by omega)]
   have e0:(x:Int)*1+S (fun _=>0) a=(y:Int)*1+S (fun _=>0) b:=by
    have h0':(x:Int)*(if 0=0 then 1 else 0)+S (fun k=>if k+1=0 then 1 else 0) a=(y:Int)*(if 0=0 then 1 else 0)+S (fun k=>if k+1=0 then 1 else 0) b:=h0
    rw[z]at h0';simpa using h0'
   rw[LO,LO]at e0
   have exy:x=y:=by omega
   subst exy
   have:a=b:=ih b (by simpa using h) fun f=>by
    have h1:=hf (fun k=>if k=0 then 0 else f (k - 1))
    have h2:(x:Int)*0+S (fun k=>f k) a=(x:Int)*0+S (fun k=>f k) b:=by
     have h1':(x:Int)*(if 0=0 then 0 else f (0 - 1))+S (fun k=>if k+1=0 then 0 else f (k+1 - 1)) a=(x:Int)*(if 0=0 then 0 else f (0 - 1))+S (fun k=>if k+1=0 then 0 else f (k+1 - 1)) b:=h1
     simpa using h1'
    simpa using h2
   rw[this]
theorem WB:∀(a b:List Nat),(addRows a b).length=max a.length b.length:=by
 intro a
 induction a with
 |nil=>intro b;simp[addRows]
 |cons x a ih=>
  intro b
  cases b with
  |nil=>simp[addRows]
  |cons y b=>simp only[addRows,List.length_cons,ih];omega
theorem Px:∀(a b:List Nat),1<=a.length->1<=b.length->(conv a b).length=a.length+b.length - 1:=by
 intro a
 induction a with
 |nil=>intro b h;simp at h
 |cons x a ih=>
  intro b _ hb
  show(addRows (b.map fun y=>x*y) (0::conv a b)).length=_
  rw[WB,List.length_map,List.length_cons]
  cases a with
  |nil=>show max b.length (0+1)=0+1+b.length - 1;omega
  |cons z a=>rw[ih b (by simp) hb];simp only[List.length_cons];omega
def E (d:Dist)(f:Int->Int):Int:=S (fun k=>f (d.low+(k:Int))) d.counts
def FZ (d:Dist):Prop:=1<=d.counts.length
theorem BZ (h:∀v,f v=g v):E d f=E d g:=by
 have:f=g:=funext h
 rw[this]
theorem IS (a b:Dist)(ha:FZ a)(hb:FZ b):(sumOf a b).counts=conv a.counts b.counts:=by
 show(conv a.counts b.counts).take (a.counts.length+b.counts.length - 1)=_
 rw[List.take_of_length_le]
 rw[Px _ _ ha hb]
 exact Nat.le_refl _
theorem Hf (a b:Dist)(ha:FZ a)(hb:FZ b):(sumOf a b).counts.length=a.counts.length+b.counts.length - 1:=by
 rw[IS a b ha hb,Px _ _ ha hb]
theorem K9 (ha:FZ a)(hb:FZ b):FZ (sumOf a b):=by
 show 1<=_
 rw[Hf a b ha hb]
 have h1:1<=a.counts.length:=ha
 have h2:1<=b.counts.length:=hb
 omega
theorem OR (a b:Dist)(ha:FZ a)(hb:FZ b)(f:Int->Int):E (sumOf a b) f=E a fun x=>E b fun y=>f (x+y):=by
 unfold E
 rw[IS a b ha hb,bY]
 congr 1;funext i;congr 1;funext j
 show f (a.low+b.low+((i+j:Nat):Int))=f (a.low+(i:Int)+(b.low+(j:Int)))
 congr 1;push_cast;omega
theorem jc (a b:Dist)(g:Int->Int->Int):E a (fun x=>E b fun y=>g x y)=E b fun y=>E a fun x=>g x y:=by
 unfold E
 exact ja (fun i j=>g (a.low+(i:Int)) (b.low+(j:Int))) a.counts b.counts
theorem bZ (hl:a.low=b.low)(hn:a.counts.length=b.counts.length)(h:∀f,E a f=E b f):a=b:=by
 cases a with
 |mk la ca=>
  cases b with
  |mk lb cb=>
   have hl':la=lb:=hl
   subst hl'
   have:ca=cb:=Vq ca cb hn fun f=>by
    have q:=h fun v=>f (v - la).toNat
    have e:∀c:List Nat,E ⟨la,c⟩ (fun v=>f (v - la).toNat)=S f c:=fun c=>by
     unfold E
     apply Ht
     intro k _
     show f (la+(k:Int) - la).toNat=f k
     congr 1;omega
    rw[e,e]at q
    exact q
   rw[this]
theorem Xj (ha:FZ a)(hb:FZ b):sumOf a b=sumOf b a:=by
 refine bZ ?_ ?_ fun f=>?_
 ·show a.low+b.low=b.low+a.low;omega
 ·rw[Hf a b ha hb,Hf b a hb ha];omega
 ·rw[OR a b ha hb,OR b a hb ha,jc]
  apply BZ;intro y;apply BZ;intro x;rw[Int.add_comm]
theorem Mb (d:Dist)(f:Int->Int):E (negated d) f=E d fun v=>f (-v):=by
 unfold E
 show S (fun k=>f (-d.high+(k:Int))) d.counts.reverse=_
 rw[Zh]
 apply Ht
 intro k hk
 show f (-(d.low+(d.counts.length:Int) - 1)+((d.counts.length - 1 - k:Nat):Int))=f (-(d.low+(k:Int)))
 congr 1;omega
theorem S4 (h:FZ d):FZ (negated d):=by
 show 1<=d.counts.reverse.length
 rw[List.length_reverse];exact h
theorem Ee (v:Int):FZ (constant v):=Nat.le_refl 1
theorem Jd (h:1<=n):FZ (die n):=by
 show 1<=(List.replicate n 1).length
 rw[List.length_replicate];exact h
theorem FX (h:1<=n):∀k,FZ (dice n k)
 |0=>Ee 0
 |k+1=>K9 (Jd h) (FX h k)
theorem Wl (v:Int)(f:Int->Int):E (constant v) f=f v:=by
 show((1:Nat):Int)*f (v+((0:Nat):Int))+0=f v
 simp
theorem Zi (h:1<=n)(k:Nat):sumOf (dice n k) (die n)=dice n (k+1):=Xj (FX h k) (Jd h)
theorem B3 (d:Dist):(d.total:Int)=E d fun _=>1:=by
 show((sumN d.counts:Nat):Int)=S (fun _=>1) d.counts
 rw[Rt,B1]
theorem LA (d:Dist)(v:Int):(atLeast d v:Int)=E d fun x=>if v<=x then 1 else 0:=by
 show((sumN (d.counts.drop (v - d.low).toNat):Nat):Int)=S _ d.counts
 rw[B1,<-Rt,bG]
 apply Ht
 intro k _
 show(if _ then(1:Int)else 0)=if v<=d.low+(k:Int)then 1 else 0
 by_cases h:(v - d.low).toNat<=k
 ·rw[if_pos h,if_pos (by omega)]
 ·rw[if_neg h,if_neg (by omega)]
theorem Zw (d:Dist)(v:Int):(d.at_ v:Int)=E d fun x=>if x=v then 1 else 0:=by
 unfold Dist.at_ E
 by_cases h:v<d.low
 ·rw[if_pos h]
  have:(fun k:Nat=>if d.low+(k:Int)=v then(1:Int)else 0)=fun _=>0:=by funext k;rw[if_neg (by omega)]
  rw[this,LO];rfl
 ·rw[if_neg h,jb]
  apply Ht
  intro k _
  show(if _ then(1:Int)else 0)=if d.low+(k:Int)=v then 1 else 0
  by_cases e:k=(v - d.low).toNat
  ·rw[if_pos e,if_pos (by omega)]
  ·rw[if_neg e,if_neg (by omega)]
theorem Zj (f:Int->Int)(low:Int):∀(c:List Nat) (n:Nat) (z:Int),(c.zip (List.range' n c.length)).foldl (fun(a:Int) x=>a+(x.1:Int)*f (low+(x.2:Int))) z=z+S (fun k=>f (low+(n:Int)+(k:Int))) c:=by
 intro c
 induction c with
 |nil=>intro n z;simp[S]
 |cons x c ih=>
  intro n z
  rw[List.length_cons,List.range'_succ,List.zip_cons_cons,List.foldl_cons,ih]
  show z+(x:Int)*f (low+(n:Int))+S (fun k=>f (low+((n+1:Nat):Int)+(k:Int))) c=z+((x:Int)*f (low+(n:Int)+((0:Nat):Int))+S (fun k=>f (low+(n:Int)+((k+1:Nat):Int))) c)
  have e:(fun k:Nat=>f (low+((n+1:Nat):Int)+(k:Int)))=fun k:Nat=>f (low+(n:Int)+((k+1:Nat):Int)):=by funext k;congr 1;omega
  have e2:low+(n:Int)+((0:Nat):Int)=low+(n:Int):=by simp
  rw[e,e2];omega
theorem So (d:Dist)(f:Int->Int):moment d f=E d f:=by
 unfold moment E
 rw[List.range_eq_range',Zj]
 have e:(fun k:Nat=>f (d.low+((0:Nat):Int)+(k:Int)))=fun k:Nat=>f (d.low+(k:Int)):=by funext k;congr 1;omega
 rw[e];omega
theorem Kw:∀(l:List Nat) (a:Array Nat),(l.foldl (fun(a:Array Nat) v=>a.setIfInBounds v (a.getD v 0+1)) a).size=a.size
 |[],_=>rfl
 |v::l,a=>by rw[List.foldl_cons,Kw l];simp
theorem Hs (p:Part):(keptDist p).counts.length=p.faces*p.keep+1 - p.keep:=by
 show(((((rolls p.faces p.count).map fun r=>kept p r).foldl (fun(a:Array Nat) v=>a.setIfInBounds v (a.getD v 0+1)) (Array.replicate (p.faces*p.keep+1) 0)).toList.drop p.keep).length)=_
 rw[List.length_drop,Array.length_toList,Kw,Array.size_replicate]
def bare (p:Part):Dist:=if p.faces=0 then constant (p.count:Int)else if p.keep=p.count then dice p.faces p.count else keptDist p
theorem Ci (p:Part):partDist p=if p.minus=true then negated (bare p)else bare p:=rfl
theorem Rq (p:Part):FZ (bare p):=by
 unfold bare
 by_cases h:p.faces=0
 ·rw[if_pos h];exact Ee _
 ·rw[if_neg h]
  have h1:1<=p.faces:=by omega
  by_cases h2:p.keep=p.count
  ·rw[if_pos h2];exact FX h1 _
  ·rw[if_neg h2]
   show 1<=_
   rw[Hs]
   have:1*p.keep<=p.faces*p.keep:=Nat.mul_le_mul_right _ h1
   omega
theorem Ef (p:Part):FZ (partDist p):=by
 rw[Ci]
 by_cases h:p.minus=true
 ·rw[if_pos h];exact S4 (Rq p)
 ·rw[if_neg h];exact Rq p
def EP:List Part->(Int->Int)->Int
 |[],f=>f 0
 |p::r,f=>E (partDist p) fun x=>EP r fun y=>f (x+y)
theorem Zv:∀(ps:List Part) (a:Dist) (f:Int->Int),FZ a->E (ps.foldl (fun a p=>sumOf a (partDist p)) a) f=E a fun x=>EP ps fun y=>f (x+y)
 |[],a,f,_=>by
  show E a f=E a fun x=>f (x+0)
  apply BZ;intro v;rw[Int.add_zero]
 |p::r,a,f,h=>by
  rw[List.foldl_cons,Zv r _ f (K9 h (Ef p)),OR _ _ h (Ef p)]
  apply BZ;intro x
  show _=E (partDist p) fun z=>EP r fun y=>f (x+(z+y))
  apply BZ;intro z
  congr 1;funext y;rw[Int.add_assoc]
theorem Of (ps:List Part)(f:Int->Int):E (distOf ps) f=EP ps f:=by
 unfold distOf
 rw[Zv ps _ f (Ee 0),Wl]
 congr 1;funext y;rw[Int.zero_add]
theorem Rr:∀(ps qs:List Part) (f:Int->Int),EP (ps++qs) f=EP ps fun x=>EP qs fun y=>f (x+y)
 |[],qs,f=>by
  show EP qs f=EP qs fun y=>f (0+y)
  congr 1;funext y;rw[Int.zero_add]
 |p::r,qs,f=>by
  show(E (partDist p) fun x=>EP (r++qs) fun y=>f (x+y))=E (partDist p) fun x=>EP r fun y=>EP qs fun z=>f (x+y+z)
  apply BZ;intro x
  rw[Rr r qs]
  congr 1;funext y;congr 1;funext z;rw[Int.add_assoc]
def flip (q:Part):Part:={q with minus:=!q.minus}
theorem iG (q:Part)(f:Int->Int):E (partDist (flip q)) f=E (partDist q) fun v=>f (-v):=by
 rw[Ci,Ci]
 have e:bare (flip q)=bare q:=rfl
 have m:(flip q).minus= !q.minus:=rfl
 rw[e,m]
 cases q.minus with
 |true=>
  rw[if_neg (by decide),if_pos rfl,Mb]
  apply BZ;intro v;rw[Int.neg_neg]
 |false=>
  rw[if_pos (by decide),if_neg (by decide),Mb]
theorem X1:∀(qs:List Part) (f:Int->Int),EP (qs.map flip) f=EP qs fun y=>f (-y)
 |[],f=>by show f 0=f (-0);rfl
 |q::r,f=>by
  show(E (partDist (flip q)) fun x=>EP (r.map flip) fun y=>f (x+y))=E (partDist q) fun x=>EP r fun y=>f (-(x+y))
  rw[iG]
  apply BZ;intro x
  rw[X1 r]
  congr 1;funext y;congr 1;omega
def Cw (ps qs:List Part):Dist:=distOf (ps++qs.map fun q=>{q with minus:=!q.minus})
theorem Mc (ps qs:List Part)(f:Int->Int):E (Cw ps qs) f=E (distOf ps) fun x=>E (distOf qs) fun y=>f (x - y):=by
 show E (distOf (ps++qs.map flip)) f=_
 rw[Of,Rr,Of]
 congr 1;funext x
 rw[X1,Of]
 congr 1
def below (d:Dist)(v:Int):Nat:=sumN (d.counts.take (v - d.low).toNat)
theorem U5 (d:Dist)(v:Int):(below d v:Int)=E d fun x=>if x<v then 1 else 0:=by
 show((sumN (d.counts.take (v - d.low).toNat):Nat):Int)=S _ d.counts
 rw[B1,<-Rt,iH]
 apply Ht
 intro k _
 show(if _ then(1:Int)else 0)=if d.low+(k:Int)<v then 1 else 0
 by_cases h:k<(v - d.low).toNat
 ·rw[if_pos h,if_pos (by omega)]
 ·rw[if_neg h,if_neg (by omega)]
theorem X2 (d:Dist)(x:Int)(f:Int->Int):(E d fun v=>x*f v)=x*E d f:=fQ x _ _
theorem Qi (ps qs:List Part):(atLeast (Cw ps qs) 1:Int)=E (distOf ps) fun x=>(below (distOf qs) x:Int):=by
 rw[LA,Mc]
 apply BZ;intro x
 rw[U5]
 apply BZ;intro y
 by_cases h:y<x
 ·rw[if_pos h,if_pos (by omega)]
 ·rw[if_neg h,if_neg (by omega)]
theorem S5 (ps qs:List Part):((Cw ps qs).at_ 0:Int)=E (distOf ps) fun x=>((distOf qs).at_ x:Int):=by
 rw[Zw,Mc]
 apply BZ;intro x
 rw[Zw]
 apply BZ;intro y
 by_cases h:y=x
 ·rw[if_pos h,if_pos (by omega)]
 ·rw[if_neg h,if_neg (by omega)]
theorem Qj (ps qs:List Part):((Cw ps qs).total:Int)=((distOf ps).total:Int)*((distOf qs).total:Int):=by
 rw[B3,Mc]
 have e:(E (distOf ps) fun _=>E (distOf qs) fun _=>1)=E (distOf ps) fun _=>((distOf qs).total:Int)*1:=by
  apply BZ;intro x;rw[<-B3,Int.mul_one]
 rw[e,X2,<-B3,Int.mul_comm]
theorem Zx (hf:∀k,0<=f k):∀l:List Nat,0<=S f l:=by
 intro l
 induction l generalizing f with
 |nil=>exact Int.le_refl 0
 |cons c r ih=>
  show 0<=(c:Int)*f 0+S (fun k=>f (k+1)) r
  have h1:=ih (f:=fun k=>f (k+1)) fun k=>hf (k+1)
  have h2:0<=(c:Int)*f 0:=Int.mul_nonneg (by omega) (hf 0)
  omega
theorem NM (a b:Dist)(ha:FZ a)(hb:FZ b):((sumOf a b).total:Int)=(a.total:Int)*(b.total:Int):=by
 rw[B3,OR a b ha hb]
 have e:(E a fun _=>E b fun _=>1)=E a fun _=>(b.total:Int)*1:=by
  apply BZ;intro x;rw[<-B3,Int.mul_one]
 rw[e,X2,<-B3,Int.mul_comm]
theorem Qk (a:Dist):(negated a).total=a.total:=by
 have h:((negated a).total:Int)=(a.total:Int):=by rw[B3,Mb,B3]
 omega
def ins (x:Nat):List Nat->List Nat
 |[]=>[x]
 |y::r=>if x<=y then x::y::r else y::ins x r
def srt:List Nat->List Nat
 |[]=>[]
 |x::r=>ins x (srt r)
theorem L8 (x:Nat):∀l,(ins x l).Perm (x::l)
 |[]=>List.Perm.refl _
 |y::r=>by
  show(if x<=y then x::y::r else y::ins x r).Perm _
  split
  ·exact List.Perm.refl _
  ·exact((L8 x r).cons y).trans (List.Perm.swap x y r)
theorem Ey:∀l,(srt l).Perm l
 |[]=>List.Perm.refl _
 |x::r=>(L8 x (srt r)).trans ((Ey r).cons x)
theorem eJ (x:Nat)(l:List Nat):(ins x l).length=l.length+1:=by rw[(L8 x l).length_eq];rfl
theorem Ka (l:List Nat):(srt l).length=l.length:=(Ey l).length_eq
theorem Pl (x:Nat):∀l:List Nat,l.Pairwise (·<=·)->(ins x l).Pairwise (·<=·)
 |[],_=>by simp[ins]
 |y::r,h=>by
  have h1:=List.pairwise_cons.mp h
  show(if x<=y then x::y::r else y::ins x r).Pairwise _
  split
  ·next c=>
   refine List.pairwise_cons.mpr ⟨fun z hz=>?_,h⟩
   rcases List.mem_cons.mp hz with rfl|hz
   ·exact c
   ·exact Nat.le_trans c (h1.1 z hz)
  ·next c=>
   refine List.pairwise_cons.mpr ⟨fun z hz=>?_,Pl x r h1.2⟩
   rcases List.mem_cons.mp ((L8 x r).mem_iff.mp hz)with rfl|hz
   ·omega
   ·exact h1.1 z hz
theorem CI:∀l,(srt l).Pairwise (·<=·)
 |[]=>List.Pairwise.nil
 |x::r=>Pl x _ (CI r)
theorem Pn {a b:List Nat}(ha:a.Pairwise (·<=·))(hb:b.Pairwise (·<=·))(h:a.Perm b):a=b:=
 List.Perm.eq_of_pairwise (fun _ _ _ _ h1 h2=>Nat.le_antisymm h1 h2) ha hb h
theorem RH (ha:a.Pairwise (·<=·)):srt a=a:=Pn (CI a) ha (Ey a)
theorem Za (h:a.Perm b):srt a=srt b:=Pn (CI a) (CI b) ((Ey a).trans (h.trans (Ey b).symm))
def hold (g:Bool)(k:Nat)(l:List Nat):List Nat:=if g=true then(srt l).drop (l.length - k)else(srt l).take k
theorem Ly (g:Bool)(k:Nat)(l:List Nat):(hold g k l).length=min k l.length:=by
 unfold hold
 split
 ·rw[List.length_drop,Ka];omega
 ·rw[List.length_take,Ka]
theorem V2 (g:Bool)(k:Nat)(l:List Nat):(hold g k l).Pairwise (·<=·):=by
 unfold hold
 split
 ·exact(CI l).sublist (List.drop_sublist _ _)
 ·exact(CI l).sublist (List.take_sublist _ _)
theorem PJ (h:x∈hold g k l):x∈l:=by
 have h':x∈srt l:=by
  unfold hold at h
  split at h
  ·exact List.mem_of_mem_drop h
  ·exact List.mem_of_mem_take h
 exact(Ey l).mem_iff.mp h'
theorem Xc (h:a.Perm b):hold g k a=hold g k b:=by
 unfold hold
 rw[Za h,h.length_eq]
theorem V3 (x:Nat):∀(k:Nat) (s:List Nat),(ins x (s.take k)).take k=(ins x s).take k
 |0,s=>by simp
 |k+1,[]=>rfl
 |k+1,y::r=>by
  show(ins x (y::r.take k)).take (k+1)=_
  show(if x<=y then x::y::r.take k else y::ins x (r.take k)).take (k+1)=(if x<=y then x::y::r else y::ins x r).take (k+1)
  split
  ·show x::(y::r.take k).take k=x::(y::r).take k
   cases k with
   |zero=>rfl
   |succ k=>show x::y::(r.take (k+1)).take k=x::y::r.take k;rw[List.take_take,Nat.min_eq_left (Nat.le_succ k)]
  ·show y::(ins x (r.take k)).take k=y::(ins x r).take k
   rw[V3 x k r]
def K3 (k:Nat)(l:List Nat):List Nat:=l.drop (l.length - k)
theorem Fx (h:k<=r.length):K3 k (y::r)=K3 k r:=by
 unfold K3
 have:(y::r).length - k=(r.length - k)+1:=by rw[List.length_cons];omega
 rw[this,List.drop_succ_cons]
theorem Sg (h:l.length<=k):K3 k l=l:=by
 unfold K3
 rw[Nat.sub_eq_zero_of_le h,List.drop_zero]
theorem Sh (x k:Nat):∀(s:List Nat),s.Pairwise (·<=·)->K3 k (ins x (K3 k s))=K3 k (ins x s)
 |[],_=>by rw[Sg (l:=[]) (Nat.zero_le k)]
 |y::r,h=>by
  by_cases hk:(y::r).length<=k
  ·rw[Sg hk]
  ·have hr:k<=r.length:=by rw[List.length_cons]at hk;omega
   have h1:=List.pairwise_cons.mp h
   rw[Fx hr,Sh x k r h1.2]
   show _=K3 k (if x<=y then x::y::r else y::ins x r)
   split
   ·next c=>
    rw[Fx (by rw[List.length_cons];omega),Fx hr]
    have e:ins x r=x::r:=by
     cases r with
     |nil=>rfl
     |cons z r=>show(if x<=z then x::z::r else z::ins x r)=_;rw[if_pos (Nat.le_trans c (h1.1 z (by simp)))]
    rw[e,Fx hr]
   ·rw[Fx (by rw[eJ];omega)]
theorem Zb (g:Bool)(k x:Nat)(l:List Nat):hold g k (hold g k l++[x])=hold g k (x::l):=by
 have p:(hold g k l++[x]).Perm (x::hold g k l):=List.perm_append_comm
 rw[Xc p]
 have e1:srt (x::hold g k l)=ins x (hold g k l):=by
  show ins x (srt (hold g k l))=_
  rw[RH (V2 g k l)]
 have e2:srt (x::l)=ins x (srt l):=rfl
 cases g with
 |false=>
  show(srt (x::hold false k l)).take k=(srt (x::l)).take k
  rw[e1,e2]
  show(ins x ((srt l).take k)).take k=_
  exact V3 x k (srt l)
 |true=>
  have f1:∀m:List Nat,hold true k m=K3 k (srt m):=fun m=>by
   show(srt m).drop (m.length - k)=(srt m).drop ((srt m).length - k)
   rw[Ka]
  rw[f1 (x::hold true k l),f1 (x::l),e1,e2,f1 l]
  exact Sh x k (srt l) (CI l)
theorem II (x:Nat):∀l,(putDown x l).Perm (x::l)
 |[]=>List.Perm.refl _
 |y::r=>by
  show(if y<=x then x::y::r else y::putDown x r).Perm _
  split
  ·exact List.Perm.refl _
  ·exact((II x r).cons y).trans (List.Perm.swap x y r)
theorem Jk (x:Nat):∀l:List Nat,l.Pairwise (fun a b=>b<=a)->(putDown x l).Pairwise (fun a b=>b<=a)
 |[],_=>by simp[putDown]
 |y::r,h=>by
  have h1:=List.pairwise_cons.mp h
  show(if y<=x then x::y::r else y::putDown x r).Pairwise _
  split
  ·next c=>
   refine List.pairwise_cons.mpr ⟨fun z hz=>?_,h⟩
   rcases List.mem_cons.mp hz with rfl|hz
   ·exact c
   ·exact Nat.le_trans (h1.1 z hz) c
  ·next c=>
   refine List.pairwise_cons.mpr ⟨fun z hz=>?_,Jk x r h1.2⟩
   rcases List.mem_cons.mp ((II x r).mem_iff.mp hz)with rfl|hz
   ·omega
   ·exact h1.1 z hz
theorem Yg:∀(l acc:List Nat),acc.Pairwise (fun a b=>b<=a)->(l.foldl (fun a x=>putDown x a) acc).Pairwise (fun a b=>b<=a)/\(l.foldl (fun a x=>putDown x a) acc).Perm (l++acc)
 |[],acc,h=>⟨h,List.Perm.refl _⟩
 |x::l,acc,h=>by
  obtain⟨h1,h2⟩:=Yg l (putDown x acc) (Jk x acc h)
  refine⟨h1,h2.trans ?_⟩
  exact((II x acc).append_left l).trans List.perm_middle
theorem K4 (l:List Nat):sortedDown l=(srt l).reverse:=by
 obtain⟨h1,h2⟩:=Yg l [] List.Pairwise.nil
 have h3:((srt l).reverse).Pairwise (fun a b=>b<=a):=List.pairwise_reverse.mpr (CI l)
 refine List.Perm.eq_of_pairwise (le:=fun a b=>b<=a) (fun _ _ _ _ a b=>Nat.le_antisymm b a) h1 h3 ?_
 rw[List.append_nil]at h2
 exact h2.trans ((Ey l).symm.trans (List.reverse_perm _).symm)
theorem Yh (p:Part)(l:List Nat)(hl:l.length=p.count)(hk:p.keep<=p.count):kept p l=(hold p.best p.keep l).sum:=by
 unfold kept hold
 by_cases h:p.best=true
 ·rw[if_pos h,if_pos h,B1,K4,List.take_reverse,List.sum_reverse,Ka]
 ·rw[if_neg h,if_neg h,B1,K4,List.drop_reverse,List.sum_reverse,Ka,hl]
  congr 2;omega
def T {α:Type}(g:α->Int)(L:List α):Int:=(L.map g).sum
theorem Hk (g:α->Int):T g []=0:=rfl
theorem B0 (g:α->Int)(a:α)(L:List α):T g (a::L)=g a+T g L:=by unfold T;rw[List.map_cons,List.sum_cons]
theorem Fy (g:α->Int):∀(a b:List α),T g (a++b)=T g a+T g b
 |[],b=>by rw[Hk,List.nil_append,Int.zero_add]
 |x::a,b=>by rw[List.cons_append,B0,B0,Fy g a b,Int.add_assoc]
theorem Si (g:β->Int)(f:α->List β):∀(l:List α),T g (l.flatMap f)=T (fun a=>T g (f a)) l
 |[]=>rfl
 |x::l=>by rw[List.flatMap_cons,Fy,B0,Si g f l]
theorem gI (g:β->Int)(f:α->β)(l:List α):T g (l.map f)=T (fun a=>g (f a)) l:=by
 unfold T;rw[List.map_map];rfl
theorem L9 (h:∀a∈l,f a=g a):T f l=T g l:=by
 unfold T
 rw[List.map_congr_left h]
theorem MA (faces j:Nat)(g:List Nat->Int):T g (rolls faces (j+1))=T (fun r=>T (fun f=>g ((f+1)::r)) (List.range faces)) (rolls faces j):=by
 show T g ((rolls faces j).flatMap fun r=>(List.range faces).map fun f=>(f+1)::r)=_
 rw[Si]
 exact L9 fun r _=>gI _ _ _
theorem Sj (faces:Nat):∀(j:Nat) (r:List Nat),r∈rolls faces j->r.length=j/\∀x∈r,1<=x/\x<=faces
 |0,r,h=>by
  have:r=[]:=by simpa [rolls]using h
  subst this
  exact⟨rfl,fun x hx=>by simp at hx⟩
 |j+1,r,h=>by
  obtain⟨r',h1,h2⟩:=List.mem_flatMap.mp h
  obtain⟨f,h3,h4⟩:=List.mem_map.mp h2
  subst h4
  obtain⟨a,b⟩:=Sj faces j r' h1
  refine⟨by rw[List.length_cons,a],fun x hx=>?_⟩
  rcases List.mem_cons.mp hx with rfl|hx
  ·have:=List.mem_range.mp h3;omega
  ·exact b x hx
theorem Hz:∀(l:List Nat),(∀x∈l,1<=x/\x<=faces)->l.length<=l.sum/\l.sum<=faces*l.length
 |[],_=>by simp
 |x::l,h=>by
  obtain⟨a,b⟩:=Hz l fun y hy=>h y (List.mem_cons_of_mem _ hy)
  have hx:=h x List.mem_cons_self
  rw[List.sum_cons,List.length_cons,Nat.mul_add]
  omega
theorem Yi (f:Nat->Int):∀(l:List Nat) (a:Array Nat),(∀v∈l,v<a.size)->S f (l.foldl (fun(a:Array Nat) v=>a.setIfInBounds v (a.getD v 0+1)) a).toList=S f a.toList+T (fun v=>f v) l
 |[],a,_=>by rw[Hk];simp
 |v::l,a,h=>by
  have hv:=h v List.mem_cons_self
  rw[List.foldl_cons,Yi f l _ (fun u hu=>by rw[Array.size_setIfInBounds];exact h u (List.mem_cons_of_mem _ hu)),B0,Array.toList_setIfInBounds]
  have e:a.getD v 0=a.toList.getD v 0:=by
   simp[Array.getD_eq_getD_getElem?,List.getD_eq_getElem?_getD]
  rw[e,SX f 1 v a.toList (by rw[Array.length_toList];exact hv)]
  simp;omega
theorem PX (p:Part)(hk:p.keep<=p.count)(f:Int->Int):E (keptDist p) f=T (fun r=>f (((hold p.best p.keep r).sum:Nat):Int)) (rolls p.faces p.count):=by
 have hb:∀r∈rolls p.faces p.count,kept p r=(hold p.best p.keep r).sum/\p.keep<=kept p r/\kept p r<=p.faces*p.keep:=fun r hr=>by
  obtain⟨h1,h2⟩:=Sj _ _ r hr
  have e:=Yh p r h1 hk
  have hl:=Ly p.best p.keep r
  rw[h1,Nat.min_eq_left hk]at hl
  obtain⟨a,b⟩:=Hz (faces:=p.faces) (hold p.best p.keep r) fun x hx=>h2 x (PJ hx)
  rw[hl]at a b
  exact⟨e,by rw[e];exact a,by rw[e];exact b⟩
 unfold E
 show S (fun k=>f ((p.keep:Int)+(k:Int))) (((((rolls p.faces p.count).map fun r=>kept p r).foldl (fun(a:Array Nat) v=>a.setIfInBounds v (a.getD v 0+1)) (Array.replicate (p.faces*p.keep+1) 0)).toList.drop p.keep))=_
 rw[bG,Yi]
 ·rw[Array.toList_replicate,FK,Int.zero_add,gI]
  refine L9 fun r hr=>?_
  obtain⟨h1,h2,h3⟩:=hb r hr
  rw[if_pos h2,<-h1]
  congr 1;omega
 ·intro v hv
  obtain⟨r,hr,e⟩:=List.mem_map.mp hv
  obtain⟨_,_,h3⟩:=hb r hr
  rw[Array.size_replicate,<-e]
  omega
abbrev Cs:=List (List Nat×Nat)
def D (g:List Nat->Int)(W:Cs):Int:=T (fun kw=>(kw.2:Int)*g kw.1) W
def OC (W:Cs)(k:List Nat):Nat:=((W.find? fun kw=>decide (kw.1=k)).map (·.2)).getD 0
def LQ (W:Cs)(k:List Nat)(v:Nat):Cs:=
 if(W.any fun kw=>decide (kw.1=k))=true then W.map (fun kw=>if kw.1=k then(kw.1,v)else kw)else W++[(k,v)]
theorem Nj (g:List Nat->Int)(k:List Nat)(v:Nat):∀(W:Cs),k∉W.map (·.1)->W.map (fun kw=>if kw.1=k then(kw.1,v)else kw)=W
 |[],_=>rfl
 |kw::W,h=>by
  rw[List.map_cons,List.mem_cons,not_or]at h
  rw[List.map_cons,Nj g k v W h.2,if_neg fun e=>h.1 e.symm]
theorem gJ (g:List Nat->Int)(k:List Nat)(w:Nat):∀(W:Cs),(W.map (·.1)).Nodup->D g (LQ W k (OC W k+w))=D g W+(w:Int)*g k
 |[],_=>by
  show D g ([]++[(k,0+w)])=D g []+_
  simp[D,T]
 |kw::W,h=>by
  rw[List.map_cons]at h
  obtain⟨h1,h2⟩:=List.nodup_cons.mp h
  by_cases e:kw.1=k
  ·have eg:OC (kw::W) k=kw.2:=by simp[OC,e]
   have ep:LQ (kw::W) k (kw.2+w)=(k,kw.2+w)::W:=by
    unfold LQ
    rw[if_pos (by simp[e]),List.map_cons,if_pos e,e,Nj g k _ W (by rw[<-e];exact h1)]
   rw[eg,ep]
   unfold D
   rw[B0,B0]
   show((kw.2+w:Nat):Int)*g k+_=(kw.2:Int)*g kw.1+_+_
   rw[e];push_cast;rw[Int.add_mul];omega
  ·have eg:OC (kw::W) k=OC W k:=by simp[OC,e]
   have ep:∀v,LQ (kw::W) k v=kw::LQ W k v:=fun v=>by
    unfold LQ
    rw[List.any_cons]
    have:decide (kw.1=k)=false:=by simp[e]
    rw[this,Bool.false_or]
    split
    ·rw[List.map_cons,if_neg e]
    ·rfl
   have ih:=gJ g k w W h2
   rw[eg,ep]
   unfold D at ih ⊢
   rw[B0,B0,ih];omega
theorem V4 (h:kw∈LQ W k v):kw∈W\/kw=(k,v):=by
 unfold LQ at h
 split at h
 ·obtain⟨q,h1,h2⟩:=List.mem_map.mp h
  split at h2
  ·next e=>right;rw[<-h2,e]
  ·left;rw[<-h2];exact h1
 ·rcases List.mem_append.mp h with h|h
  ·exact .inl h
  ·right;simpa using h
theorem Zc (W:Cs)(k:List Nat)(v:Nat):(LQ W k v).map (·.1)=if k∈W.map (·.1)then W.map (·.1)else W.map (·.1)++[k]:=by
 unfold LQ
 by_cases h:k∈W.map (·.1)
 ·rw[if_pos h,if_pos (by
   obtain⟨q,h1,h2⟩:=List.mem_map.mp h
   exact List.any_eq_true.mpr ⟨q,h1,by simp[h2]⟩),List.map_map]
  apply List.map_congr_left
  intro q _
  show(if q.1=k then(q.1,v)else q).1=q.1
  split <;> rfl
 ·rw[if_neg h,if_neg (by
   intro a
   obtain⟨q,h1,h2⟩:=List.any_eq_true.mp a
   exact h (List.mem_map.mpr ⟨q,h1,by simpa using h2⟩)),List.map_append]
  rfl
theorem Xd (k:List Nat)(v:Nat)(h:(W.map (·.1)).Nodup):((LQ W k v).map (·.1)).Nodup:=by
 rw[Zc]
 split
 ·exact h
 ·next e=>
  rw[List.nodup_append]
  refine⟨h,by simp,fun a ha b hb=>?_⟩
  have:b=k:=by simpa using hb
  subst this
  intro q;subst q;exact e ha
theorem V5:∀(W:Cs),(∀kw∈W,1<=kw.2)->(W.length:Int)<=D (fun _=>1) W
 |[],_=>by simp[D,T]
 |kw::W,h=>by
  have ih:=V5 W fun q hq=>h q (List.mem_cons_of_mem _ hq)
  have h1:=h kw List.mem_cons_self
  unfold D at ih ⊢
  rw[B0,List.length_cons]
  push_cast
  show(W.length:Int)+1<=(kw.2:Int)*1+T (fun kw=>(kw.2:Int)*(fun _=>1) kw.1) W
  omega
structure After (faces k:Nat)(g:Bool)(j:Nat)(W:Cs):Prop where
 nd:(W.map (·.1)).Nodup
 key:∀kw∈W,kw.1.length=min k j/\∀x∈kw.1,1<=x/\x<=faces
 pos:∀kw∈W,1<=kw.2
 val:∀f:List Nat->Int,D f W=T (fun r=>f (hold g k r)) (rolls faces j)
theorem After.zero (faces k:Nat)(g:Bool):After faces k g 0 [([],1)] where
 nd:=by simp
 key:=fun kw h=>by
  have:kw=([],1):=by simpa using h
  subst this
  exact⟨by simp,fun x hx=>by simp at hx⟩
 pos:=fun kw h=>by
  have:kw=([],1):=by simpa using h
  subst this
  exact Nat.le_refl 1
 val:=fun f=>by
  show((1:Nat):Int)*f []+0=f (hold g k [])+0
  have:hold g k []=[]:=List.eq_nil_of_length_eq_zero (by rw[Ly];simp)
  rw[this];simp
structure CJ (faces k:Nat)(g:Bool)(j:Nat)(W:Cs)(i m:Nat)(G:Cs):Prop where
 nd:(G.map (·.1)).Nodup
 key:∀kw∈G,kw.1.length=min k (j+1)/\∀x∈kw.1,1<=x/\x<=faces
 pos:∀kw∈G,1<=kw.2
 val:∀f:List Nat->Int,D f G=T (fun kw=>(kw.2:Int)*T (fun x=>f (hold g k (kw.1++[x+1]))) (List.range faces)) (W.take i)+T (fun kw=>(kw.2:Int)*T (fun x=>f (hold g k (kw.1++[x+1]))) (List.range m)) ((W.drop i).take 1)
theorem UG:∀(l:List α),T (fun _=>0) l=0
 |[]=>rfl
 |x::l=>by rw[B0,UG l];rfl
theorem CJ.start (faces k:Nat)(g:Bool)(j:Nat)(W:Cs):CJ faces k g j W 0 0 [] where
 nd:=by simp
 key:=fun kw h=>by simp at h
 pos:=fun kw h=>by simp at h
 val:=fun f=>by
  show(0:Int)=0+_
  have:(fun kw:List Nat×Nat=>(kw.2:Int)*T (fun x=>f (hold g k (kw.1++[x+1]))) (List.range 0))=fun _=>0:=by
   funext kw;rw[List.range_zero,Hk];simp
  rw[this,UG];rfl
theorem CJ.step (A:After faces k g j W)(B:CJ faces k g j W i m G)(h:W[i]? =some kw)(hm:m<faces):
  CJ faces k g j W i (m+1) (LQ G (hold g k (kw.1++[m+1])) (OC G (hold g k (kw.1++[m+1]))+kw.2)):=by
 have hw:=List.mem_of_getElem? h
 have e1:(W.drop i).take 1=[kw]:=by
  obtain⟨hi,e⟩:=List.getElem?_eq_some_iff.mp h
  rw[List.drop_eq_getElem_cons hi,e];rfl
 refine⟨Xd _ _ B.nd,fun q hq=>?_,fun q hq=>?_,fun f=>?_⟩
 ·rcases V4 hq with hq|rfl
  ·exact B.key q hq
  ·obtain⟨a,b⟩:=A.key kw hw
   refine⟨?_,fun x hx=>?_⟩
   ·show(hold g k (kw.1++[m+1])).length=_
    rw[Ly,List.length_append,a,List.length_singleton];omega
   ·rcases List.mem_append.mp (PJ hx)with hx|hx
    ·exact b x hx
    ·have:x=m+1:=by simpa using hx
     omega
 ·rcases V4 hq with hq|rfl
  ·exact B.pos q hq
  ·have:=A.pos kw hw
   show 1<=_+kw.2
   omega
 ·rw[gJ f _ _ G B.nd,B.val f,e1,B0,Hk,B0,Hk,List.range_succ,Fy,B0,Hk,Int.add_zero,Int.add_zero,Int.add_zero,Int.mul_add]
  omega
theorem CJ.turn (B:CJ faces k g j W i faces G):CJ faces k g j W (i+1) 0 G:=by
 refine⟨B.nd,B.key,B.pos,fun f=>?_⟩
 rw[B.val f]
 have z:(fun kw:List Nat×Nat=>(kw.2:Int)*T (fun x=>f (hold g k (kw.1++[x+1]))) (List.range 0))=fun _=>0:=by
  funext kw;rw[List.range_zero,Hk];simp
 rw[z,UG,<-Fy,<-List.take_add]
 omega
theorem CJ.done (A:After faces k g j W)(B:CJ faces k g j W W.length 0 G):After faces k g (j+1) G:=by
 refine⟨B.nd,B.key,B.pos,fun f=>?_⟩
 have z:(fun kw:List Nat×Nat=>(kw.2:Int)*T (fun x=>f (hold g k (kw.1++[x+1]))) (List.range 0))=fun _=>0:=by
  funext kw;rw[List.range_zero,Hk];simp
 rw[B.val f,z,UG,List.take_length,Int.add_zero,MA]
 have:=A.val (fun h=>T (fun x=>f (hold g k (h++[x+1]))) (List.range faces))
 unfold D at this
 rw[this]
 refine L9 fun r _=>L9 fun x _=>?_
 rw[Zb]
theorem Je (faces:Nat):∀j,T (fun _=>1) (rolls faces j)=((faces ^ j:Nat):Int)
 |0=>by show(1:Int)+0=_;simp
 |j+1=>by
  rw[MA]
  have e:T (fun _=>(1:Int)) (List.range faces)=(faces:Int):=by
   unfold T
   rw[List.map_const',List.length_range]
   induction faces with
   |zero=>rfl
   |succ n ih=>rw[List.replicate_succ,List.sum_cons,ih];push_cast;omega
  have e2:∀(L:List (List Nat)),T (fun _=>(faces:Int)) L=(faces:Int)*T (fun _=>1) L:=fun L=>by
   induction L with
   |nil=>rw[Hk,Hk];simp
   |cons a L ih=>rw[B0,B0,ih,Int.mul_add];omega
  rw[e,e2,Je faces j,Nat.pow_succ,Nat.mul_comm]
  push_cast;rfl
theorem After.counts (A:After faces k g count W)(hk:k<=count)(hl:c.length=k*faces - k+1)(hf:1<=faces)
  (hc:∀f:Nat->Int,S f c=T (fun kw=>(kw.2:Int)*f (kw.1.sum - k)) W):(keptDist {minus:=false,count:=count,faces:=faces,keep:=k,best:=g}).counts=c:=by
 have hl':(keptDist {minus:=false,count:=count,faces:=faces,keep:=k,best:=g}).counts.length=c.length:=by
  rw[Hs,hl]
  show faces*k+1 - k=k*faces - k+1
  have:1*k<=faces*k:=Nat.mul_le_mul_right _ hf
  rw[Nat.mul_comm k faces]
  omega
 refine Vq _ _ hl' fun f=>?_
 have h1:=PX {minus:=false,count:=count,faces:=faces,keep:=k,best:=g} hk fun v=>f (v - (k:Int)).toNat
 have h2:=A.val fun h=>f (h.sum - k)
 unfold D at h2
 rw[hc,h2]
 have e:E (keptDist {minus:=false,count:=count,faces:=faces,keep:=k,best:=g}) (fun v=>f (v - (k:Int)).toNat)=S f (keptDist {minus:=false,count:=count,faces:=faces,keep:=k,best:=g}).counts:=by
  unfold E
  refine Ht _ fun i _=>?_
  show f ((k:Int)+(i:Int) - (k:Int)).toNat=f i
  congr 1;omega
 rw[<-e,h1]
 refine L9 fun r _=>?_
 show f ((((hold g k r).sum:Nat):Int) - (k:Int)).toNat=f ((hold g k r).sum - k)
 congr 1;omega
def CK (row:List Int):Option Nat:=
 if 1<=row.length/\row.length<=3/\¬(1<row.length/\row.head? =some 48)/\row.all isDigit=true then some (valueOf row)else none
def cutAt (c:Int):List Int->List Int×List Int
 |[]=>([],[])
 |x::r=>if x=c then([],r)else(x::(cutAt c r).1,(cutAt c r).2)
def Gi (minus:Bool)(dice:Nat)(behind:List Int):Option Part:=
 if 107∈behind then
  match CK (cutAt 107 behind).1 with
  |none=>none
  |some f=>match CK (cutAt 107 behind).2 with
   |none=>none
   |some k=>some {minus:=minus,count:=dice,faces:=max 1 f,keep:=k,best:=true}
 else if 108∈behind then
  match CK (cutAt 108 behind).1 with
  |none=>none
  |some f=>match CK (cutAt 108 behind).2 with
   |none=>none
   |some k=>some {minus:=minus,count:=dice,faces:=max 1 f,keep:=k,best:=false}
 else match CK behind with
  |none=>none
  |some f=>some {minus:=minus,count:=dice,faces:=max 1 f,keep:=dice,best:=true}
def GY (minus:Bool)(row:List Int):Option Part:=
 if 100∈row then
  if(cutAt 100 row).1=[]then Gi minus 1 (cutAt 100 row).2
  else match CK (cutAt 100 row).1 with
   |none=>none
   |some n=>Gi minus n (cutAt 100 row).2
 else match CK row with
  |none=>none
  |some n=>some {minus:=minus,count:=n,faces:=0,keep:=0,best:=true}
def isSign (c:Int):Bool:=decide (c=43)||decide (c=45)
def Av:Bool->List Int->List Int->List (Bool×List Int)
 |minus,row,[]=>[(minus,row)]
 |minus,row,c::r=>if isSign c=true then(minus,row)::Av (decide (c=45)) [] r else Av minus (row++[c]) r
def BJ:List (Bool×List Int)->Option (List Part)
 |[]=>some []
 |(m,row)::r=>match GY m row with
  |none=>none
  |some p=>match BJ r with
   |none=>none
   |some ps=>some (p::ps)
def V7 (rest:List Int):Prop:=∀c r,rest=c::r->isDigit c=false
theorem Im:∀(row rest:List Int),V7 rest->digitsOf (row++rest)=((digitsOf row).1,(digitsOf row).2++rest)
 |[],rest,h=>by
  cases rest with
  |nil=>rfl
  |cons c r=>
   show(if isDigit c=true then _ else([],c::r))=_
   rw[h c r rfl];rfl
 |c::row,rest,h=>by
  show(if isDigit c=true then(c::(digitsOf (row++rest)).1,(digitsOf (row++rest)).2)else([],c::(row++rest)))=_
  by_cases d:isDigit c=true
  ·rw[if_pos d,Im row rest h]
   show _=((if isDigit c=true then(c::(digitsOf row).1,(digitsOf row).2)else([],c::row)).1,_)
   rw[if_pos d]
   show _=(_,(if isDigit c=true then(c::(digitsOf row).1,(digitsOf row).2)else([],c::row)).2++rest)
   rw[if_pos d]
  ·rw[if_neg d]
   show _=((if isDigit c=true then(c::(digitsOf row).1,(digitsOf row).2)else([],c::row)).1,(if isDigit c=true then(c::(digitsOf row).1,(digitsOf row).2)else([],c::row)).2++rest)
   rw[if_neg d];rfl
theorem MD:∀(row:List Int),row.all isDigit=true->digitsOf row=(row,[])
 |[],_=>rfl
 |c::row,h=>by
  rw[List.all_cons,Bool.and_eq_true]at h
  show(if isDigit c=true then(c::(digitsOf row).1,(digitsOf row).2)else([],c::row))=_
  rw[if_pos h.1,MD row h.2]
theorem CA:∀(row:List Int),row=(digitsOf row).1++(digitsOf row).2/\(digitsOf row).1.all isDigit=true/\V7 (digitsOf row).2
 |[]=>⟨rfl,rfl,fun _ _ h=>by cases h⟩
 |c::row=>by
  show c::row=(if isDigit c=true then(c::(digitsOf row).1,(digitsOf row).2)else([],c::row)).1++(if isDigit c=true then(c::(digitsOf row).1,(digitsOf row).2)else([],c::row)).2/\
   (if isDigit c=true then(c::(digitsOf row).1,(digitsOf row).2)else([],c::row)).1.all isDigit=true/\V7 (if isDigit c=true then(c::(digitsOf row).1,(digitsOf row).2)else([],c::row)).2
  by_cases d:isDigit c=true
  ·rw[if_pos d]
   obtain⟨a,b,s⟩:=CA row
   refine⟨?_,?_,s⟩
   ·show c::row=c::((digitsOf row).1++(digitsOf row).2);rw[<-a]
   ·show(c::(digitsOf row).1).all isDigit=true;rw[List.all_cons,d,b];rfl
  ·rw[if_neg d]
   refine⟨rfl,rfl,fun x r h=>?_⟩
   cases h
   simpa using d
theorem DG (row rest:List Int)(h:V7 rest):number (row++rest)=match number row with
  |none=>none
  |some x=>some (x.1,x.2++rest):=by
 unfold number
 rw[Im row rest h]
 show(if(digitsOf row).1.length=0\/3<(digitsOf row).1.length\/(1<(digitsOf row).1.length/\(digitsOf row).1.head? =some 48)then none else some (valueOf (digitsOf row).1,(digitsOf row).2++rest))=_
 dsimp only
 split <;> rfl
theorem LU (h:row.all isDigit=true):number row=match CK row with
  |none=>none
  |some n=>some (n,[]):=by
 unfold number CK
 rw[MD row h]
 dsimp only
 by_cases c:row.length=0\/3<row.length\/(1<row.length/\row.head? =some 48)
 ·rw[if_pos c,if_neg (by rintro⟨a,b,d,e⟩;rcases c with c|c|c;omega;omega;exact d c)]
 ·rw[if_neg c,if_pos ⟨by omega,by omega,fun q=>c (.inr (.inr q)),h⟩]
theorem Nm (h:CK row=some n):row.all isDigit=true:=by
 unfold CK at h
 split at h
 ·next c=>exact c.2.2.2
 ·cases h
theorem Xi (h:CK row=none):number row=none\/∃n c r,number row=some (n,c::r)/\c::r=(digitsOf row).2/\isDigit c=false:=by
 obtain⟨e,d,s⟩:=CA row
 cases q:(digitsOf row).2 with
 |nil=>
  left
  rw[q,List.append_nil]at e
  have d':row.all isDigit=true:=by rw[e];exact d
  rw[LU d',h]
 |cons c r=>
  cases q2:number row with
  |none=>exact .inl rfl
  |some x=>
   right
   unfold number at q2
   dsimp only at q2
   split at q2
   ·cases q2
   ·cases q2
    exact⟨_,c,r,by rw[q],rfl,s c r q⟩
theorem Ep:isDigit 100=false:=by decide
theorem CT:isDigit 107=false:=by decide
theorem Er:isDigit 108=false:=by decide
theorem Pr (h:isSign c=true):isDigit c=false:=by
 unfold isSign at h
 rw[Bool.or_eq_true,decide_eq_true_eq,decide_eq_true_eq]at h
 rcases h with rfl|rfl <;> decide
theorem Pp (c:Int):∀(l:List Int),c∈l->l=(cutAt c l).1++c::(cutAt c l).2/\c∉(cutAt c l).1
 |[],h=>by simp at h
 |x::r,h=>by
  show x::r=(if x=c then([],r)else(x::(cutAt c r).1,(cutAt c r).2)).1++c::(if x=c then([],r)else(x::(cutAt c r).1,(cutAt c r).2)).2/\c∉(if x=c then([],r)else(x::(cutAt c r).1,(cutAt c r).2)).1
  by_cases e:x=c
  ·rw[if_pos e,e];exact⟨rfl,by simp⟩
  ·rw[if_neg e]
   have hc:c∈r:=by
    rcases List.mem_cons.mp h with h|h
    ·exact absurd h.symm e
    ·exact h
   obtain⟨a,b⟩:=Pp c r hc
   refine⟨?_,?_⟩
   ·show x::r=x::((cutAt c r).1++c::(cutAt c r).2);rw[<-a]
   ·rw[List.mem_cons,not_or];exact⟨fun q=>e q.symm,b⟩
theorem Hm {c d:Int}{row:List Int}(h:row.all isDigit=true)(hd:isDigit d=false)(hm:c=d):c∉row:=by
 subst hm
 intro q
 have:=List.all_eq_true.mp h c q
 rw[hd]at this;cases this
theorem D7 (c:Int)(hc:isDigit c=false):∀(a b:List Int),a.all isDigit=true->cutAt c (a++c::b)=(a,b)
 |[],b,_=>by show(if c=c then([],b)else _)=_;rw[if_pos rfl]
 |x::a,b,h=>by
  rw[List.all_cons,Bool.and_eq_true]at h
  show(if x=c then _ else(x::(cutAt c (a++c::b)).1,(cutAt c (a++c::b)).2))=_
  rw[if_neg (by intro e;rw[e,hc]at h;cases h.1),D7 c hc a b h.2]
theorem F5 {row:List Int}{c:Int}(hm:c∈row)(hc:isDigit c=false):CK row=none:=by
 cases q:CK row with
 |none=>rfl
 |some n=>exact absurd hm (Hm (Nm q) hc rfl)
theorem Sm (row:List Int):number row=match CK (digitsOf row).1 with
  |none=>none
  |some n=>some (n,(digitsOf row).2):=by
 obtain⟨e,d,s⟩:=CA row
 have h:=DG (digitsOf row).1 (digitsOf row).2 s
 rw[<-e]at h
 rw[h,LU d]
 cases CK (digitsOf row).1 with
 |none=>rfl
 |some n=>rfl
def Plain (row:List Int):Prop:=∀c∈row,isSign c=false
def Rest (rest:List Int):Prop:=∀c r,rest=c::r->isSign c=true
theorem Rest.Yl (h:Rest rest):V7 rest:=fun c r e=>Pr (h c r e)
def Left {α:Type}(s:Option (α×List Int)):Prop:=s=none\/∃x c r,s=some (x,c::r)/\isSign c=false
theorem K5 (hp:Plain row)(hr:Rest rest):
  (∀n,CK row=some n->number (row++rest)=some (n,rest))/\(CK row=none->Left (number (row++rest))):=by
 refine⟨fun n h=>?_,fun h=>?_⟩
 ·rw[DG row rest hr.Yl,LU (Nm h),h]
  show some (n,[]++rest)=_
  rfl
 ·rw[DG row rest hr.Yl]
  rcases Xi h with q|⟨n,c,r,q,e,d⟩
  ·rw[q];exact .inl rfl
  ·rw[q]
   refine .inr ⟨n,c,r++rest,rfl,hp c ?_⟩
   obtain⟨e',_,_⟩:=CA row
   rw[e',<-e]
   simp
theorem Kb {ds r:List Int}{c x:Int}(hx:x∈ds++c::r)(hd:ds.all isDigit=true)(hnx:isDigit x=false)(hne:x≠c):c∈(cutAt x (ds++c::r)).1:=by
 obtain⟨e,n⟩:=Pp x _ hx
 have hnd:x∉ds:=Hm hd hnx rfl
 revert e n
 generalize cutAt x (ds++c::r)=z
 intro e n
 obtain⟨z1,z2⟩:=z
 have e:ds++c::r=z1++x::z2:=e
 show c∈z1
 have key:∀(ds z1:List Int),x∉ds->ds++c::r=z1++x::z2->c∈z1:=by
  intro ds
  induction ds with
  |nil=>
   intro z1 _ e
   cases z1 with
   |nil=>exact absurd (List.cons.inj e).1.symm hne
   |cons y z1=>rw[(List.cons.inj e).1];simp
  |cons a ds ih=>
   intro z1 h e
   cases z1 with
   |nil=>exact absurd (by rw[(List.cons.inj e).1];simp) h
   |cons y z1=>exact List.mem_cons_of_mem _ (ih z1 (fun q=>h (List.mem_cons_of_mem _ q)) (List.cons.inj e).2)
 exact key ds z1 hnd e
def Sn (minus:Bool)(count:Nat)(r:Text):Option (Part×Text):=match number r with
 |none=>none
 |some f=>(match keepOf count f.2 with
  |none=>none
  |some k=>some ({minus:=minus,count:=count,faces:=max 1 f.1,keep:=k.1,best:=k.2.1},k.2.2))
theorem Ze (minus:Bool)(s:Text):partOf minus s=match s with
 |100::r=>Sn minus 1 r
 |s=>(match number s with
  |none=>none
  |some n=>(match n.2 with
   |100::r=>Sn minus n.1 r
   |r=>some ({minus:=minus,count:=n.1,faces:=0,keep:=0,best:=true},r))):=rfl
theorem ME (h1:∀r,s≠107::r)(h2:∀r,s≠108::r):keepOf count s=some (count,true,s):=by
 unfold keepOf
 split
 ·next r=>exact absurd rfl (h1 r)
 ·next r=>exact absurd rfl (h2 r)
 ·rfl
theorem bO (count:Nat)(r:Text):keepOf count (107::r)=match number r with
  |some x=>some (x.1,true,x.2)
  |none=>none:=rfl
theorem bP (count:Nat)(r:Text):keepOf count (108::r)=match number r with
  |some x=>some (x.1,false,x.2)
  |none=>none:=rfl
theorem Rest.not (h:Rest rest)(hx:isSign x=false):∀r,rest≠x::r:=fun r e=>by
 have:=h x r e
 rw[hx]at this;cases this
def bQ (o:Option Part)(s:Option (Part×Text))(rest:Text):Prop:=(∀p,o=some p->s=some (p,rest))/\(o=none->Left s)
theorem bR (minus:Bool)(count:Nat)(row rest:Text)(hr:Rest rest):Sn minus count (row++rest)=match CK (digitsOf row).1 with
  |none=>none
  |some f=>(match keepOf count ((digitsOf row).2++rest)with
   |none=>none
   |some k=>some ({minus:=minus,count:=count,faces:=max 1 f,keep:=k.1,best:=k.2.1},k.2.2)):=by
 unfold Sn
 rw[DG row rest hr.Yl,Sm row]
 cases CK (digitsOf row).1 with
 |none=>rfl
 |some n=>rfl
theorem Nn (minus:Bool)(count:Nat){row rest:Text}(hp:Plain row)(hr:Rest rest):bQ (Gi minus count row) (Sn minus count (row++rest)) rest:=by
 obtain⟨e,d,s⟩:=CA row
 rw[bR minus count row rest hr]
 revert e d s
 generalize(digitsOf row).1=ds
 generalize(digitsOf row).2=t
 intro e d s
 cases t with
 |nil=>
  rw[List.append_nil]at e
  subst e
  have n107:(107:Int)∉row:=Hm d CT rfl
  have n108:(108:Int)∉row:=Hm d Er rfl
  unfold Gi
  rw[if_neg n107,if_neg n108,List.nil_append,ME (hr.not (by decide)) (hr.not (by decide))]
  cases CK row with
  |none=>exact⟨fun p h=>(by cases h),fun _=>.inl rfl⟩
  |some f=>exact⟨fun p h=>(by cases h;rfl),fun h=>(by cases h)⟩
 |cons c r=>
  have hcd:isDigit c=false:=s c r rfl
  have hcs:isSign c=false:=hp c (by rw[e];simp)
  have hpr:Plain r:=fun x hx=>hp x (by rw[e];simp[hx])
  by_cases c107:c=107
  ·subst c107
   have m:(107:Int)∈row:=by rw[e];simp
   unfold Gi
   rw[if_pos m]
   have ec:cutAt 107 row=(ds,r):=by rw[e];exact D7 107 CT ds r d
   rw[ec,List.cons_append,bO]
   dsimp only
   cases CK ds with
   |none=>exact⟨fun p h=>(by cases h),fun _=>.inl rfl⟩
   |some f=>
    dsimp only
    obtain⟨g1,g2⟩:=K5 hpr hr
    cases q:CK r with
    |none=>
     refine⟨fun p h=>(by cases h),fun _=>?_⟩
     rcases g2 q with z|⟨x,c',r',z,hz⟩
     ·rw[z];exact .inl rfl
     ·rw[z];exact .inr ⟨_,c',r',rfl,hz⟩
    |some k=>
     rw[g1 k q]
     exact⟨fun p h=>(by cases h;rfl),fun h=>(by cases h)⟩
  ·by_cases c108:c=108
   ·subst c108
    have m8:(108:Int)∈row:=by rw[e];simp
    unfold Gi
    rw[List.cons_append,bP]
    obtain⟨g1,g2⟩:=K5 hpr hr
    by_cases m7:(107:Int)∈row
    ·rw[if_pos m7]
     have hf:(108:Int)∈(cutAt 107 row).1:=by rw[e];exact Kb (by rw[<-e];exact m7) d CT (by decide)
     rw[F5 hf Er]
     refine⟨fun p h=>(by cases h),fun _=>?_⟩
     have hr7:(107:Int)∈r:=by
      rw[e]at m7
      rcases List.mem_append.mp m7 with z|z
      ·exact absurd z (Hm d CT rfl)
      ·rcases List.mem_cons.mp z with z|z
       ·exact absurd z (by decide)
       ·exact z
     cases CK ds with
     |none=>exact .inl rfl
     |some f=>
      dsimp only
      rcases g2 (F5 hr7 CT)with z|⟨x,c',r',z,hz⟩
      ·rw[z];exact .inl rfl
      ·rw[z];exact .inr ⟨_,c',r',rfl,hz⟩
    ·rw[if_neg m7,if_pos m8]
     have ec:cutAt 108 row=(ds,r):=by rw[e];exact D7 108 Er ds r d
     rw[ec]
     dsimp only
     cases CK ds with
     |none=>exact⟨fun p h=>(by cases h),fun _=>.inl rfl⟩
     |some f=>
      dsimp only
      cases q:CK r with
      |none=>
       refine⟨fun p h=>(by cases h),fun _=>?_⟩
       rcases g2 q with z|⟨x,c',r',z,hz⟩
       ·rw[z];exact .inl rfl
       ·rw[z];exact .inr ⟨_,c',r',rfl,hz⟩
      |some k=>
       rw[g1 k q]
       exact⟨fun p h=>(by cases h;rfl),fun h=>(by cases h)⟩
   ·have mc:c∈row:=by rw[e];simp
    have bad:Gi minus count row=none:=by
     unfold Gi
     by_cases m7:(107:Int)∈row
     ·rw[if_pos m7,F5 (c:=c) (by rw[e];exact Kb (by rw[<-e];exact m7) d CT (fun q=>c107 q.symm)) hcd]
     ·rw[if_neg m7]
      by_cases m8:(108:Int)∈row
      ·rw[if_pos m8,F5 (c:=c) (by rw[e];exact Kb (by rw[<-e];exact m8) d Er (fun q=>c108 q.symm)) hcd]
      ·rw[if_neg m8,F5 mc hcd]
    rw[bad]
    refine⟨fun p h=>(by cases h),fun _=>?_⟩
    rw[List.cons_append,ME (fun z q=>c107 (List.cons.inj q).1) (fun z q=>c108 (List.cons.inj q).1)]
    cases CK ds with
    |none=>exact .inl rfl
    |some f=>exact .inr ⟨_,c,r++rest,rfl,hcs⟩
theorem UJ (minus:Bool)(h:∀r,s≠100::r):partOf minus s=match number s with
  |none=>none
  |some n=>(match n.2 with
   |100::r=>Sn minus n.1 r
   |r=>some ({minus:=minus,count:=n.1,faces:=0,keep:=0,best:=true},r)):=by
 rw[Ze]
 split
 ·next r=>exact absurd rfl (h r)
 ·rfl
theorem V8 (minus:Bool){row rest:Text}(hp:Plain row)(hr:Rest rest):bQ (GY minus row) (partOf minus (row++rest)) rest:=by
 by_cases h100:∃r,row=100::r
 ·obtain⟨r,e⟩:=h100
  subst e
  have hpr:Plain r:=fun x hx=>hp x (List.mem_cons_of_mem _ hx)
  unfold GY
  have ec:cutAt 100 (100::r)=([],r):=D7 100 Ep [] r rfl
  rw[if_pos (by simp),ec,if_pos rfl]
  exact Nn minus 1 hpr hr
 ·have hn:∀r,row++rest≠100::r:=fun r q=>by
   cases row with
   |nil=>exact hr.not (by decide) r q
   |cons x row=>exact h100 ⟨row,by rw[(List.cons.inj q).1]⟩
  rw[UJ minus hn,DG row rest hr.Yl,Sm row]
  obtain⟨e,d,s⟩:=CA row
  revert e d s
  generalize(digitsOf row).1=ds
  generalize(digitsOf row).2=t
  intro e d s
  cases t with
  |nil=>
   rw[List.append_nil]at e
   subst e
   have n100:(100:Int)∉row:=Hm d Ep rfl
   unfold GY
   rw[if_neg n100]
   cases CK row with
   |none=>exact⟨fun p h=>(by cases h),fun _=>.inl rfl⟩
   |some n=>
    dsimp only
    rw[List.nil_append]
    refine⟨fun p h=>?_,fun h=>by cases h⟩
    cases h
    split
    ·next r=>exact absurd rfl (hr.not (x:=100) (by decide) r)
    ·rfl
  |cons c r=>
   have hcd:isDigit c=false:=s c r rfl
   have hcs:isSign c=false:=hp c (by rw[e];simp)
   have hpr:Plain r:=fun x hx=>hp x (by rw[e];simp[hx])
   have mc:c∈row:=by rw[e];simp
   by_cases c100:c=100
   ·subst c100
    unfold GY
    have ec:cutAt 100 row=(ds,r):=by rw[e];exact D7 100 Ep ds r d
    have nds:ds≠[]:=fun q=>h100 ⟨r,by rw[e,q];rfl⟩
    rw[if_pos mc,ec]
    dsimp only
    rw[if_neg nds]
    cases CK ds with
    |none=>exact⟨fun p h=>(by cases h),fun _=>.inl rfl⟩
    |some n=>exact Nn minus n hpr hr
   ·have bad:GY minus row=none:=by
     unfold GY
     by_cases m:(100:Int)∈row
     ·have hf:c∈(cutAt 100 row).1:=by rw[e];exact Kb (by rw[<-e];exact m) d Ep (fun q=>c100 q.symm)
      have hne:(cutAt 100 row).1≠[]:=fun q=>by rw[q]at hf;simp at hf
      rw[if_pos m,if_neg hne,F5 hf hcd]
     ·rw[if_neg m,F5 mc hcd]
    rw[bad]
    refine⟨fun p h=>(by cases h),fun _=>?_⟩
    cases CK ds with
    |none=>exact .inl rfl
    |some n=>
     dsimp only
     rw[List.cons_append]
     split
     ·next r' q=>exact absurd (List.cons.inj q).1 c100
     ·exact .inr ⟨_,c,r++rest,rfl,hcs⟩
theorem Np:∀(row:List Int) (m:Bool) (acc rest:List Int),Plain row->Av m acc (row++rest)=Av m (acc++row) rest
 |[],m,acc,rest,_=>by rw[List.nil_append,List.append_nil]
 |c::row,m,acc,rest,h=>by
  show(if isSign c=true then _ else Av m (acc++[c]) (row++rest))=_
  rw[if_neg (by rw[h c (by simp)];decide),Np row m (acc++[c]) rest fun x hx=>h x (List.mem_cons_of_mem _ hx),List.append_assoc]
  rfl
theorem Nq:∀(text:List Int),∃row rest,text=row++rest/\Plain row/\Rest rest
 |[]=>⟨[],[],rfl,fun _ h=>by simp at h,fun _ _ h=>by cases h⟩
 |c::r=>by
  by_cases h:isSign c=true
  ·exact⟨[],c::r,rfl,fun _ h=>by simp at h,fun x y e=>by cases e;exact h⟩
  ·obtain⟨row,rest,e,hp,hr⟩:=Nq r
   refine⟨c::row,rest,by rw[e];rfl,fun x hx=>?_,hr⟩
   rcases List.mem_cons.mp hx with rfl|hx
   ·simpa using h
   ·exact hp x hx
theorem Nr:∀(k:Nat) (minus:Bool) (text:List Int),text.length<k->partsFrom k minus text=BJ (Av minus [] text)
 |0,_,_,h=>by omega
 |k+1,minus,text,h=>by
  obtain⟨row,rest,e,hp,hr⟩:=Nq text
  subst e
  obtain⟨g1,g2⟩:=V8 minus hp hr
  rw[Np row minus [] rest hp,List.nil_append]
  show(match partOf minus (row++rest)with
   |none=>none
   |some x=>(match x.2 with
    |[]=>some [x.1]
    |43::r=>(match partsFrom k false r with
     |some l=>some (x.1::l)
     |none=>none)
    |45::r=>(match partsFrom k true r with
     |some l=>some (x.1::l)
     |none=>none)
    |_=>none))=_
  cases q:GY minus row with
  |none=>
   have e2:BJ (Av minus row rest)=none:=by
    cases rest with
    |nil=>show BJ [(minus,row)]=none;simp only[BJ,q]
    |cons c r=>
     show BJ (if isSign c=true then(minus,row)::Av (decide (c=45)) [] r else _)=none
     rw[if_pos (hr c r rfl)]
     simp only[BJ,q]
   rw[e2]
   rcases g2 q with z|⟨x,c,r,z,hz⟩
   ·rw[z]
   ·rw[z]
    dsimp only
    split
    ·next w=>cases w
    ·next w=>cases w;exact absurd hz (by decide)
    ·next w=>cases w;exact absurd hz (by decide)
    ·rfl
  |some p=>
   rw[g1 p q]
   cases rest with
   |nil=>show some [p]=BJ [(minus,row)];simp only[BJ,q]
   |cons c r=>
    have hc:=hr c r rfl
    have e2:BJ (Av minus row (c::r))=match BJ (Av (decide (c=45)) [] r)with
      |none=>none
      |some ps=>some (p::ps):=by
     show BJ (if isSign c=true then(minus,row)::Av (decide (c=45)) [] r else _)=_
     rw[if_pos hc]
     simp only[BJ,q]
    have hl:r.length<k:=by
     rw[List.length_append,List.length_cons]at h;omega
    have ih:=fun b=>Nr k b r hl
    rw[e2]
    unfold isSign at hc
    rw[Bool.or_eq_true,decide_eq_true_eq,decide_eq_true_eq]at hc
    rcases hc with rfl|rfl
    ·show(match partsFrom k false r with
      |some l=>some (p::l)
      |none=>none)=_
     rw[ih false]
     show _=match BJ (Av false [] r)with
      |none=>none
      |some ps=>some (p::ps)
     cases BJ (Av false [] r) <;> rfl
    ·show(match partsFrom k true r with
      |some l=>some (p::l)
      |none=>none)=_
     rw[ih true]
     show _=match BJ (Av true [] r)with
      |none=>none
      |some ps=>some (p::ps)
     cases BJ (Av true [] r) <;> rfl
theorem cx (t:Text):Vbrgag.read t=match BJ (Av false [] t)with
  |none=>.error 0
  |some ps=>if PARTS<ps.length\/ps.all fits=false then .error 1 else .ok ps:=by
 unfold Vbrgag.read
 rw[Nr (t.length+1) false t (Nat.lt_succ_self _)]
 cases BJ (Av false [] t) <;> rfl
theorem Gu (f:Nat->Int){l:List Nat}{i x:Nat}(h:l[i]? =some x):S f (l.take (i+1))=S f (l.take i)+(x:Int)*f i:=by
 obtain⟨hi,e⟩:=List.getElem?_eq_some_iff.mp h
 have:l.take (i+1)=l.take i++[x]:=by rw[List.take_add_one,h];rfl
 rw[this,PZ]
 have hl:(l.take i).length=i:=by rw[List.length_take];omega
 rw[hl]
 show _+((x:Int)*f (i+0)+0)=_
 rw[Nat.add_zero,Int.add_zero]
structure Adding (a b:List Nat)(i j:Nat)(s:List Nat):Prop where
 len:s.length=a.length+b.length - 1
 val:∀f,S f s=S (fun i=>S (fun j=>f (i+j)) b) (a.take i)+((a.getD i 0:Nat):Int)*S (fun j'=>f (i+j')) (b.take j)
theorem Adding.start (a b:List Nat):Adding a b 0 0 (List.replicate (a.length+b.length - 1) 0):=by
 refine⟨by rw[List.length_replicate],fun f=>?_⟩
 rw[FK]
 show(0:Int)=0+_*0
 simp
theorem Adding.step {a b:List Nat}{i j:Nat}{s:List Nat}{x y:Nat}(A:Adding a b i j s)(hx:a[i]? =some x)(hy:b[j]? =some y):
  Adding a b i (j+1) (s.set (i+j) (s.getD (i+j) 0+x*y)):=by
 have hi:=(List.getElem?_eq_some_iff.mp hx).1
 have hj:=(List.getElem?_eq_some_iff.mp hy).1
 refine⟨by rw[List.length_set];exact A.len,fun f=>?_⟩
 rw[SX f _ _ s (by rw[A.len];omega),A.val f,Gu _ hy,List.getD_eq_getElem?_getD,hx,Option.getD_some,Int.mul_add]
 push_cast
 rw[Int.mul_assoc]
 omega
theorem Adding.turn {a b:List Nat}{i:Nat}{s:List Nat}(A:Adding a b i b.length s)(hi:i<a.length):Adding a b (i+1) 0 s:=by
 refine⟨A.len,fun f=>?_⟩
 have h:a[i]? =some a[i]:=List.getElem?_eq_getElem hi
 rw[A.val f,Gu _ h,List.take_length,List.getD_eq_getElem?_getD,h,Option.getD_some]
 show _=_+_*0
 simp
theorem Adding.done (A:Adding a b a.length 0 s)(ha:1<=a.length)(hb:1<=b.length):s=conv a b:=by
 refine Vq _ _ (by rw[A.len,Px a b ha hb]) fun f=>?_
 rw[A.val f,bY,List.take_length]
 show _+_*0=_
 simp
structure F7 (n k:Nat)(W:Cs)(i:Nat)(c:List Nat):Prop where
 len:c.length=n
 val:∀f:Nat->Int,S f c=T (fun kw=>(kw.2:Int)*f (kw.1.sum - k)) (W.take i)
theorem F7.start (n k:Nat)(W:Cs):F7 n k W 0 (List.replicate n 0):=⟨by rw[List.length_replicate],fun f=>by rw[FK];rfl⟩
theorem F7.step (A:F7 n k W i c)(h:W[i]? =some kw)(hn:kw.1.sum - k<n):
  F7 n k W (i+1) (c.set (kw.1.sum - k) (c.getD (kw.1.sum - k) 0+kw.2)):=by
 refine⟨by rw[List.length_set];exact A.len,fun f=>?_⟩
 rw[SX f _ _ c (by rw[A.len];exact hn),A.val f]
 have:W.take (i+1)=W.take i++[kw]:=by rw[List.take_add_one,h];rfl
 rw[this,Fy,B0,Hk,Int.add_zero]
theorem UL (f:Nat->Int){l:List Nat}{i x:Nat}(h:l[i]? =some x)(z:Int)(hz:z=S f (l.take i)):z+(x:Int)*f i=S f (l.take (i+1)):=by
 rw[Gu f h,hz]
theorem bC (a b:Nat):Nat.gcd b (a % b)=Nat.gcd a b:=by
 rw[Nat.gcd_comm b,<-Nat.gcd_rec,Nat.gcd_comm]
theorem X4 (n d:Int)(hd:0<d):frac n d=[n / ((Nat.gcd n.natAbs d.natAbs:Nat):Int),d / ((Nat.gcd n.natAbs d.natAbs:Nat):Int)]:=by
 have hg:0<Nat.gcd n.natAbs d.natAbs:=Nat.gcd_pos_of_pos_right _ (by omega)
 unfold frac
 dsimp only
 rw[if_neg (by omega)]
 by_cases h:0<=n
 ·rw[if_pos h]
 ·rw[if_neg h]
  have dv:((Nat.gcd n.natAbs d.natAbs:Nat):Int) ∣ n:=Int.ofNat_dvd_left.mpr (Nat.gcd_dvd_left _ _)
  rw[Int.neg_ediv_of_dvd dv,Int.neg_neg]
theorem Gw:∀(a b:List Part),writeParts (a++b)=writeParts a++writeParts b
 |[],b=>rfl
 |p::a,b=>by
  show(if p.minus=true then 45 else 43)::(partText p++writeParts (a++b))=(if p.minus=true then 45 else 43)::(partText p++writeParts a)++writeParts b
  rw[Gw a b]
  show _=(if p.minus=true then 45 else 43)::((partText p++writeParts a)++writeParts b)
  rw[List.append_assoc]
theorem Y1 (p:Part):write [p]=partText p:=by
 show(partText p++[])=_
 rw[List.append_nil]
theorem Wu (p:Part)(a:List Part)(q:Part):write ((p::a)++[q])=write (p::a)++((if q.minus=true then 45 else 43)::partText q):=by
 unfold write
 rw[Gw]
 show(partText p++writeParts a)++((if q.minus=true then 45 else 43)::(partText q++[]))=_
 rw[List.append_nil]
 rfl
theorem Wn (n d:Nat)(hd:0<d):(make n d).n=n / Nat.gcd n d:=by
 have hg:0<Nat.gcd n d:=Nat.gcd_pos_of_pos_right _ hd
 unfold make
 dsimp only
 rw[if_neg (by omega)]
theorem S7 (n d:Nat)(hd:0<d):(make n d).d=d / Nat.gcd n d:=by
 have hg:0<Nat.gcd n d:=Nat.gcd_pos_of_pos_right _ hd
 unfold make
 dsimp only
 rw[if_neg (by omega)]
theorem Ds (n d:Nat)(hd:0<d):0<(make n d).d:=by
 rw[S7 n d hd]
 exact Nat.div_pos (Nat.le_of_dvd hd (Nat.gcd_dvd_right _ _)) (Nat.gcd_pos_of_pos_right _ hd)
theorem By (n d:Nat)(hd:0<d):(make n d).n*d=n*(make n d).d:=by
 rw[Wn n d hd,S7 n d hd]
 obtain⟨a,ha⟩:=Nat.gcd_dvd_left n d
 obtain⟨b,hb⟩:=Nat.gcd_dvd_right n d
 have hg:0<Nat.gcd n d:=Nat.gcd_pos_of_pos_right _ hd
 revert ha hb hg
 generalize Nat.gcd n d=g
 intro ha hb hg
 subst ha;subst hb
 rw[Nat.mul_div_cancel_left _ hg,Nat.mul_div_cancel_left _ hg]
 simp only[Nat.mul_comm,Nat.mul_left_comm,Nat.mul_assoc]
theorem VB (n d:Nat)(hd:0<d):Nat.gcd (make n d).n (make n d).d=1:=by
 rw[Wn n d hd,S7 n d hd]
 exact Nat.coprime_div_gcd_div_gcd (Nat.gcd_pos_of_pos_right _ hd)
theorem cq (hb:0<b)(hd:0<d)(h1:Nat.gcd a b=1)(h2:Nat.gcd c d=1)(h:a*d=c*b):a=c/\b=d:=by
 have e1:b ∣ d:=by
  have:b ∣ a*d:=⟨c,by rw[h,Nat.mul_comm]⟩
  exact(Nat.Coprime.dvd_of_dvd_mul_left (show Nat.Coprime b a by rw[Nat.coprime_comm];exact h1) this)
 have e2:d ∣ b:=by
  have:d ∣ c*b:=⟨a,by rw[<-h,Nat.mul_comm]⟩
  exact(Nat.Coprime.dvd_of_dvd_mul_left (show Nat.Coprime d c by rw[Nat.coprime_comm];exact h2) this)
 have e:b=d:=Nat.dvd_antisymm e1 e2
 subst e
 exact⟨Nat.eq_of_mul_eq_mul_right hb h,rfl⟩
theorem Fh (hd:0<d)(hd':0<d')(h:n*d'=n'*d):make n d=make n' d':=by
 have c1:=By n d hd
 have c2:=By n' d' hd'
 have hx:(make n d).n*(make n' d').d=(make n' d').n*(make n d).d:=by
  have:((make n d).n*(make n' d').d)*(d*d')=((make n' d').n*(make n d).d)*(d*d'):=by
   calc ((make n d).n*(make n' d').d)*(d*d')=((make n d).n*d)*((make n' d').d*d'):=by simp only[Nat.mul_comm,Nat.mul_left_comm,Nat.mul_assoc]
    _=(n*(make n d).d)*((make n' d').d*d'):=by rw[c1]
    _=(n*d')*((make n d).d*(make n' d').d):=by simp only[Nat.mul_comm,Nat.mul_left_comm,Nat.mul_assoc]
    _=(n'*d)*((make n d).d*(make n' d').d):=by rw[h]
    _=(n'*(make n' d').d)*((make n d).d*d):=by simp only[Nat.mul_comm,Nat.mul_left_comm,Nat.mul_assoc]
    _=((make n' d').n*d')*((make n d).d*d):=by rw[c2]
    _=((make n' d').n*(make n d).d)*(d*d'):=by simp only[Nat.mul_comm,Nat.mul_left_comm,Nat.mul_assoc]
  exact Nat.eq_of_mul_eq_mul_right (Nat.mul_pos hd hd') this
 obtain⟨a,b⟩:=cq (Ds n d hd) (Ds n' d' hd') (VB n d hd) (VB n' d' hd') hx
 cases e1:make n d with
 |mk x y=>
  cases e2:make n' d' with
  |mk x' y'=>
   rw[e1,e2]at a b
   dsimp only at a b
   rw[a,b]
theorem aB (hd:0<d)(hd':0<d')(h:make n d=make n' d'):n*d'=n'*d:=by
 have c1:=By n d hd
 have c2:=By n' d' hd'
 rw[h]at c1
 have p:=Ds n' d' hd'
 have:(n*d')*(make n' d').d=(n'*d)*(make n' d').d:=by
  calc (n*d')*(make n' d').d=(n*(make n' d').d)*d':=by simp only[Nat.mul_comm,Nat.mul_left_comm,Nat.mul_assoc]
   _=((make n' d').n*d)*d':=by rw[c1]
   _=((make n' d').n*d')*d:=by simp only[Nat.mul_comm,Nat.mul_left_comm,Nat.mul_assoc]
   _=(n'*(make n' d').d)*d:=by rw[c2]
   _=(n'*d)*(make n' d').d:=by simp only[Nat.mul_comm,Nat.mul_left_comm,Nat.mul_assoc]
 exact Nat.eq_of_mul_eq_mul_right p this
theorem aC (hb:0<b)(hd:0<d):add (make a b) (make c d)=make (a*d+c*b) (b*d):=by
 unfold add
 refine Fh (Nat.mul_pos (Ds _ _ hb) (Ds _ _ hd)) (Nat.mul_pos hb hd) ?_
 have c1:=By a b hb
 have c2:=By c d hd
 rw[Nat.add_mul,Nat.add_mul]
 congr 1
 ·calc (make a b).n*(make c d).d*(b*d)=((make a b).n*b)*((make c d).d*d):=by simp only[Nat.mul_comm,Nat.mul_left_comm,Nat.mul_assoc]
   _=(a*(make a b).d)*((make c d).d*d):=by rw[c1]
   _=a*d*((make a b).d*(make c d).d):=by simp only[Nat.mul_comm,Nat.mul_left_comm,Nat.mul_assoc]
 ·calc (make c d).n*(make a b).d*(b*d)=((make c d).n*d)*((make a b).d*b):=by simp only[Nat.mul_comm,Nat.mul_left_comm,Nat.mul_assoc]
   _=(c*(make c d).d)*((make a b).d*b):=by rw[c2]
   _=c*b*((make a b).d*(make c d).d):=by simp only[Nat.mul_comm,Nat.mul_left_comm,Nat.mul_assoc]
theorem add_same (hd:0<d):add (make a d) (make c d)=make (a+c) d:=by
 rw[aC hd hd]
 refine Fh (Nat.mul_pos hd hd) hd ?_
 rw[Nat.add_mul,Nat.add_mul]
 simp only[Nat.mul_comm,Nat.mul_left_comm,Nat.mul_assoc]
theorem Wo (hb:0<b):times k (make a b)=make (k*a) b:=by
 unfold times
 refine Fh (Ds _ _ hb) hb ?_
 have c1:=By a b hb
 calc k*(make a b).n*b=k*((make a b).n*b):=by rw[Nat.mul_assoc]
  _=k*(a*(make a b).d):=by rw[c1]
  _=k*a*(make a b).d:=by rw[Nat.mul_assoc]
theorem Yy (hb:0<b)(hk:0<k):over (make a b) k=make a (b*k):=by
 unfold over
 refine Fh (Nat.mul_pos (Ds _ _ hb) hk) (Nat.mul_pos hb hk) ?_
 have c1:=By a b hb
 calc (make a b).n*(b*k)=((make a b).n*b)*k:=by rw[Nat.mul_assoc]
  _=(a*(make a b).d)*k:=by rw[c1]
  _=a*((make a b).d*k):=by rw[Nat.mul_assoc]
theorem Ru (hd:0<d):zero=make 0 d:=by
 have e:zero=make 0 1:=rfl
 rw[e]
 exact Fh (by decide) hd (by simp)
theorem aD (hd:0<d):one=make d d:=by
 have e:one=make 1 1:=rfl
 rw[e]
 exact Fh (by decide) hd (by simp)
theorem Yz (hb:0<b)(hd:0<d):less (make a b) (make c d)=decide (a*d<c*b):=by
 unfold less
 have c1:=By a b hb
 have c2:=By c d hd
 have p1:=Ds a b hb
 have p2:=Ds c d hd
 have key:(make a b).n*(make c d).d<(make c d).n*(make a b).d↔a*d<c*b:=by
  have f1:((make a b).n*(make c d).d)*(b*d)=(a*d)*((make a b).d*(make c d).d):=by
   calc ((make a b).n*(make c d).d)*(b*d)=((make a b).n*b)*((make c d).d*d):=by simp only[Nat.mul_comm,Nat.mul_left_comm,Nat.mul_assoc]
    _=(a*(make a b).d)*((make c d).d*d):=by rw[c1]
    _=(a*d)*((make a b).d*(make c d).d):=by simp only[Nat.mul_comm,Nat.mul_left_comm,Nat.mul_assoc]
  have f2:((make c d).n*(make a b).d)*(b*d)=(c*b)*((make a b).d*(make c d).d):=by
   calc ((make c d).n*(make a b).d)*(b*d)=((make c d).n*d)*((make a b).d*b):=by simp only[Nat.mul_comm,Nat.mul_left_comm,Nat.mul_assoc]
    _=(c*(make c d).d)*((make a b).d*b):=by rw[c2]
    _=(c*b)*((make a b).d*(make c d).d):=by simp only[Nat.mul_comm,Nat.mul_left_comm,Nat.mul_assoc]
  constructor
  ·intro h
   have:=Nat.mul_lt_mul_of_pos_right h (Nat.mul_pos hb hd)
   rw[f1,f2]at this
   exact Nat.lt_of_mul_lt_mul_right this
  ·intro h
   have:=Nat.mul_lt_mul_of_pos_right h (Nat.mul_pos p1 p2)
   rw[<-f1,<-f2]at this
   exact Nat.lt_of_mul_lt_mul_right this
 by_cases h:a*d<c*b
 ·rw[decide_eq_true h,decide_eq_true (key.mpr h)]
 ·rw[decide_eq_false h,decide_eq_false fun q=>h (key.mp q)]
theorem same_iff (p q:Q):same p q=true↔p=q:=by
 unfold same
 cases p;cases q
 simp
theorem Rv (hd:0<d):told (make n d)=frac (n:Int) (d:Int):=by
 rw[X4 (n:Int) (d:Int) (by omega)]
 unfold told
 rw[Wn n d hd,S7 n d hd,Int.natAbs_natCast,Int.natAbs_natCast]
 push_cast
 rfl
theorem fold_same (hd:0<dd)(num:Nat->Nat)(end_:Nat->Q):∀(outs:List Nat) (k:Nat) (z:Nat),(∀x,x<k+outs.length->k<=x->outs.getD (x - k) 0≠0->end_ x=make (num x) dd)->
  (outs.zip (List.range' k outs.length)).foldl (fun q x=>if x.1=0 then q else add q (times x.1 (end_ x.2))) (make z dd)=make (z+((outs.zip (List.range' k outs.length)).map fun x=>x.1*num x.2).sum) dd
 |[],k,z,_=>by simp
 |o::outs,k,z,h=>by
  rw[List.length_cons,List.range'_succ,List.zip_cons_cons,List.foldl_cons,List.map_cons,List.sum_cons]
  have hr:∀x,x<(k+1)+outs.length->k+1<=x->outs.getD (x - (k+1)) 0≠0->end_ x=make (num x) dd:=fun x h1 h2 h3=>by
   refine h x (by rw[List.length_cons];omega) (by omega) ?_
   have:x - k=(x - (k+1))+1:=by omega
   rw[this,List.getD_cons_succ]
   exact h3
  by_cases ho:o=0
  ·subst ho
   rw[if_pos rfl,fold_same hd num end_ outs (k+1) z hr]
   congr 1
   simp
  ·have he:end_ k=make (num k) dd:=h k (by rw[List.length_cons];omega) (Nat.le_refl _) (by rw[Nat.sub_self,List.getD_cons_zero];exact ho)
   rw[if_neg ho,he,Wo hd,add_same hd,fold_same hd num end_ outs (k+1) _ hr]
   congr 1
   show z+o*num k+_=z+(o*num k+_)
   omega
theorem Lv (N:Nat)(g:Nat->List α)(hg:∀i,(g i).length=N):∀(m k a b:Nat),a<m->b<N->((List.range' k m).flatMap g)[a*N+b]? =(g (k+a))[b]?
 |0,_,a,_,h,_=>by omega
 |m+1,k,a,b,h,hb=>by
  rw[List.range'_succ,List.flatMap_cons]
  cases a with
  |zero=>
   rw[Nat.zero_mul,Nat.zero_add,List.getElem?_append_left (by rw[hg];exact hb)]
   rfl
  |succ a=>
   have e:(a+1)*N+b=N+(a*N+b):=by rw[Nat.succ_mul];omega
   rw[e,List.getElem?_append_right (by rw[hg];omega),hg,Nat.add_sub_cancel_left,Lv N g hg m (k+1) a b (by omega) hb]
   congr 2;omega
theorem Zd (D:Duel)(ha:a<=D.first.hp)(hb:b<=D.second.hp):(points D)[a*(D.second.hp+1)+b]? =some (a,b):=by
 unfold points
 rw[List.range_eq_range' (n:=D.first.hp+1),Lv (D.second.hp+1) (fun a=>(List.range (D.second.hp+1)).map fun b=>(a,b)) (fun i=>by rw[List.length_map,List.length_range]) (D.first.hp+1) 0 a b (by omega) (by omega)]
 rw[Nat.zero_add,List.getElem?_map,List.getElem?_range (by omega)]
 rfl
theorem Nk (D:Duel)(f:Nat×Nat->Q)(ha:a<=D.first.hp)(hb:b<=D.second.hp):look D ((points D).map f).toArray a b=f (a,b):=by
 show(((points D).map f).toArray).getD (a*(D.second.hp+1)+b) zero=f (a,b)
 rw[Array.getD_eq_getD_getElem?,List.getElem?_toArray,List.getElem?_map,Zd D ha hb]
 rfl
def FG (D:Duel)(mine:Bool)(act:Act)(a b x:Nat):Nat×Nat:=
 if mine=true then(if act.heals=true then(min (a+x) D.first.hp,b)else(a,b - x))else(if act.heals=true then(a,min (b+x) D.second.hp)else(a - x,b))
theorem OZ (D:Duel)(mine:Bool)(act:Act)(x:Nat)(ha:a<=D.first.hp)(hb:b<=D.second.hp):(FG D mine act a b x).1<=D.first.hp/\(FG D mine act a b x).2<=D.second.hp:=by
 unfold FG
 split
 ·split
  ·exact⟨Nat.min_le_right _ _,hb⟩
  ·exact⟨ha,by show b - x<=_;omega⟩
 ·split
  ·exact⟨ha,Nat.min_le_right _ _⟩
  ·exact⟨by show a - x<=_;omega,hb⟩
def Gg (D:Duel)(o:Nat->Nat->Q)(mine:Bool)(act:Act)(a b:Nat):Q:=
 over ((act.outs.zip (List.range act.outs.length)).foldl (fun q x=>if x.1=0 then q else add q (times x.1 (o (FG D mine act a b x.2).1 (FG D mine act a b x.2).2))) zero) act.total
theorem fold_congr:∀(l:List β) (z:α),(∀a,∀b∈l,f a b=g a b)->l.foldl f z=l.foldl g z
 |[],_,_=>rfl
 |b::l,z,h=>by
  rw[List.foldl_cons,List.foldl_cons,h z b List.mem_cons_self,fold_congr l _ fun a c hc=>h a c (List.mem_cons_of_mem _ hc)]
theorem LR (D:Duel)(t:Table)(o:Nat->Nat->Q)(h:∀a b,a<=D.first.hp->b<=D.second.hp->look D t a b=o a b)(mine:Bool)(act:Act)(ha:a<=D.first.hp)(hb:b<=D.second.hp):
  worthOf D t mine act a b=Gg D o mine act a b:=by
 unfold worthOf Gg
 dsimp only
 congr 1
 refine fold_congr _ _ fun q x _=>?_
 split
 ·rfl
 ·congr 2
  obtain⟨h1,h2⟩:=OZ D mine act x.2 ha hb
  rw[<-h _ _ h1 h2]
  unfold FG
  split
  ·split <;> rfl
  ·split <;> rfl
def Jl (D:Duel):Nat->Bool->Nat->Nat->Q
 |0,_,a,b=>(ended a b).getD zero
 |k+1,mine,a,b=>match ended a b with
  |some q=>q
  |none=>bestOf mine ((D.side mine).acts.map fun act=>Gg D (Jl D k (!mine)) mine act a b)
theorem MB (D:Duel):∀(k:Nat) (mine:Bool) (a b:Nat),a<=D.first.hp->b<=D.second.hp->look D (tableOf D k mine) a b=Jl D k mine a b
 |0,_,a,b,ha,hb=>Nk D (fun x=>(ended x.1 x.2).getD zero) ha hb
 |k+1,mine,a,b,ha,hb=>by
  show look D (tableBefore D mine (tableOf D k (!mine))) a b=_
  unfold tableBefore
  rw[Nk D _ ha hb]
  show(match ended a b with
   |some q=>q
   |none=>bestOf mine ((D.side mine).acts.map fun act=>worthOf D (tableOf D k (!mine)) mine act a b))=match ended a b with
   |some q=>q
   |none=>bestOf mine ((D.side mine).acts.map fun act=>Gg D (Jl D k (!mine)) mine act a b)
  cases ended a b with
  |some q=>rfl
  |none=>
   dsimp only
   congr 1
   refine List.map_congr_left fun act _=>?_
   exact LR D _ _ (fun a' b' h1 h2=>MB D k (!mine) a' b' h1 h2) mine act ha hb
theorem eK (D:Duel)(n:Nat)(mine:Bool)(ha:a<=D.first.hp)(hb:b<=D.second.hp):D.odds n mine a b=Jl D n mine a b:=MB D n mine a b ha hb
theorem Jm (good:Nat)(low:Int):∀(l:List (Nat×Nat)) (a:Array Nat),(l.foldl (fun(a:Array Nat) x=>a.setIfInBounds (min MOST (low+(x.2:Int)).toNat) (a.getD (min MOST (low+(x.2:Int)).toNat) 0+good*x.1)) a).size=a.size
 |[],_=>rfl
 |x::l,a=>by rw[List.foldl_cons,Jm good low l];simp
theorem KW (heals:Bool)(good all:Nat)(d:Dist):(actOf heals good all d).outs.length=16:=by
 show(((d.counts.zip (List.range d.counts.length)).foldl (fun(a:Array Nat) x=>a.setIfInBounds (min MOST (d.low+(x.2:Int)).toNat) (a.getD (min MOST (d.low+(x.2:Int)).toNat) 0+good*x.1)) ((Array.replicate (MOST+1) 0).setIfInBounds 0 ((all - good)*d.total))).toList).length=16
 rw[Array.length_toList,Jm,Array.size_setIfInBounds,Array.size_replicate]
 rfl
theorem Yj (f:Nat->Int)(good:Nat)(low:Int):∀(c:List Nat) (k:Nat) (a:Array Nat),a.size=16->
  S f ((c.zip (List.range' k c.length)).foldl (fun(a:Array Nat) x=>a.setIfInBounds (min MOST (low+(x.2:Int)).toNat) (a.getD (min MOST (low+(x.2:Int)).toNat) 0+good*x.1)) a).toList=S f a.toList+(good:Int)*S (fun j=>f (min 15 (low+(k:Int)+(j:Int)).toNat)) c
 |[],k,a,_=>by simp[S]
 |x::c,k,a,h=>by
  have hlt:min MOST (low+(k:Int)).toNat<a.size:=by rw[h];have:MOST=15:=rfl;omega
  rw[List.length_cons,List.range'_succ,List.zip_cons_cons,List.foldl_cons,Yj f good low c (k+1) _ (by rw[Array.size_setIfInBounds];exact h),Array.toList_setIfInBounds]
  have e:a.getD (min MOST (low+(k:Int)).toNat) 0=a.toList.getD (min MOST (low+(k:Int)).toNat) 0:=by
   simp[Array.getD_eq_getD_getElem?,List.getD_eq_getElem?_getD]
  rw[e,SX f _ _ a.toList (by rw[Array.length_toList];exact hlt)]
  show _=_+(good:Int)*((x:Int)*f (min 15 (low+(k:Int)+((0:Nat):Int)).toNat)+S (fun j=>f (min 15 (low+(k:Int)+((j+1:Nat):Int)).toNat)) c)
  have e1:(fun j:Nat=>f (min 15 (low+((k+1:Nat):Int)+(j:Int)).toNat))=fun j:Nat=>f (min 15 (low+(k:Int)+((j+1:Nat):Int)).toNat):=by
   funext j;congr 2;omega
  have e2:low+(k:Int)+((0:Nat):Int)=low+(k:Int):=by simp
  rw[e1,e2,Int.mul_add]
  have e3:MOST=15:=rfl
  rw[e3]
  push_cast
  rw[Int.mul_assoc]
  omega
theorem UA (heals:Bool)(good all:Nat)(d:Dist)(f:Nat->Int):S f (actOf heals good all d).outs=(((all - good)*d.total:Nat):Int)*f 0+(good:Int)*E d fun v=>f (min 15 v.toNat):=by
 show S f (((d.counts.zip (List.range d.counts.length)).foldl (fun(a:Array Nat) x=>a.setIfInBounds (min MOST (d.low+(x.2:Int)).toNat) (a.getD (min MOST (d.low+(x.2:Int)).toNat) 0+good*x.1)) ((Array.replicate (MOST+1) 0).setIfInBounds 0 ((all - good)*d.total))).toList)=_
 rw[List.range_eq_range',Yj f good d.low d.counts 0 _ (by rw[Array.size_setIfInBounds,Array.size_replicate];rfl)]
 congr 1
 ·rw[Array.toList_setIfInBounds,Array.toList_replicate]
  have:=SX f ((all - good)*d.total) 0 (List.replicate (MOST+1) 0) (by rw[List.length_replicate];exact Nat.succ_pos _)
  have e0:(List.replicate (MOST+1) 0).getD 0 0=0:=rfl
  rw[e0,Nat.zero_add,FK,Int.zero_add]at this
  exact this
 ·unfold E
  have e:(fun j:Nat=>f (min 15 (d.low+((0:Nat):Int)+(j:Int)).toNat))=fun j:Nat=>f (min 15 (d.low+(j:Int)).toNat):=by funext j;congr 2;omega
  rw[e]
theorem PV (h:1<=n):∀k,(dice n k).counts.length<=k*n+1
 |0=>by show 1<=_;omega
 |k+1=>by
  have ih:=PV h k
  show(sumOf (die n) (dice n k)).counts.length<=_
  rw[Hf _ _ (Jd h) (FX h k)]
  have:(die n).counts.length=n:=by show(List.replicate n 1).length=n;rw[List.length_replicate]
  rw[this,Nat.add_mul]
  omega
theorem SV (n:Nat):((die n).total:Int)=n:=by
 rw[B3]
 unfold E die
 rw[Rt]
 show(((List.replicate n 1).sum:Nat):Int)=n
 rw[List.sum_replicate_nat]
 omega
theorem LN (h:1<=n):∀k,(dice n k).total=n ^ k
 |0=>rfl
 |k+1=>by
  have ih:=LN h k
  have:((dice n (k+1)).total:Int)=((n ^ (k+1):Nat):Int):=by
   show((sumOf (die n) (dice n k)).total:Int)=_
   rw[NM _ _ (Jd h) (FX h k),SV,ih,Nat.pow_succ]
   push_cast
   rw[Int.mul_comm]
  omega
theorem XX (p:Part)(hk:p.keep<=p.count):(keptDist p).total=p.faces ^ p.count:=by
 have:((keptDist p).total:Int)=((p.faces ^ p.count:Nat):Int):=by
  rw[B3,PX p hk,Je]
 omega
structure Fits (p:Part):Prop where
 num:p.faces=0->p.count<=100
 dice:p.faces≠0->1<=p.count/\p.count<=6/\2<=p.faces/\p.faces<=100/\p.count*p.faces<=120/\1<=p.keep/\p.keep<=p.count/\(p.keep=p.count\/(p.count<=5/\p.faces ^ p.count<=10000))
theorem PY (p:Part):fits p=true↔Fits p:=by
 unfold fits
 by_cases h:p.faces=0
 ·rw[if_pos h]
  exact⟨fun q=>⟨fun _=>of_decide_eq_true q,fun z=>absurd h z⟩,fun q=>decide_eq_true (q.num h)⟩
 ·rw[if_neg h]
  simp only[Bool.and_eq_true,decide_eq_true_eq,Bool.or_eq_true,beq_iff_eq]
  exact⟨fun⟨a,b,c,d,e,f,g,k⟩=>⟨fun z=>absurd z h,fun _=>⟨a,b,c,d,e,f,g,k⟩⟩,fun q=>q.dice h⟩
theorem M1 (hf:f<=100)(hn:n<=6):f ^ n<2 ^ 42:=by
 have h1:f ^ n<=100 ^ n:=Nat.pow_le_pow_left hf n
 have h2:100 ^ n<=100 ^ 6:=Nat.pow_le_pow_right (by decide) hn
 have h3:(100:Nat) ^ 6<2 ^ 42:=by decide
 omega
theorem Jf (h:Fits p):(bare p).total<2 ^ 42/\0<(bare p).total/\(bare p).counts.length<=121:=by
 unfold bare
 by_cases hz:p.faces=0
 ·rw[if_pos hz]
  exact⟨(by show 1<2 ^ 42;decide),(by show 0<1;decide),(by show 1<=121;decide)⟩
 ·rw[if_neg hz]
  obtain⟨a,b,c,d,e,f,g,k⟩:=h.dice hz
  by_cases hk:p.keep=p.count
  ·rw[if_pos hk,LN (by omega)]
   exact⟨M1 d b,Nat.pow_pos (by omega),Nat.le_trans (PV (by omega) _) (by omega)⟩
  ·rw[if_neg hk,XX p g]
   refine⟨M1 d b,Nat.pow_pos (by omega),?_⟩
   rw[Hs]
   have:p.faces*p.keep<=p.faces*p.count:=Nat.mul_le_mul_left _ g
   rw[Nat.mul_comm p.faces p.count]at this
   omega
theorem Na (h:Fits p):(partDist p).total<2 ^ 42/\0<(partDist p).total/\(partDist p).counts.length<=121:=by
 rw[Ci]
 split
 ·obtain⟨a,b,c⟩:=Jf h
  rw[Qk]
  refine⟨a,b,?_⟩
  show(bare p).counts.reverse.length<=121
  rw[List.length_reverse]
  exact c
 ·exact Jf h
structure Few (n:Nat)(d:Dist):Prop where
 some:FZ d
 tot:d.total<=2 ^ (42*n)
 pos:0<d.total
 len:d.counts.length<=120*n+1
theorem Few.zero:Few 0 (constant 0):=⟨Ee 0,(by show 1<=2 ^ (42*0);decide),(by show 0<1;decide),(by show 1<=120*0+1;decide)⟩
theorem Few.step (h:Few n d)(f:Fits p):Few (n+1) (sumOf d (partDist p)):=by
 obtain⟨a,b,c⟩:=Na f
 have hs:=Ef p
 have ht:(sumOf d (partDist p)).total=d.total*(partDist p).total:=by
  have:=NM d (partDist p) h.some hs
  rw[<-Int.natCast_mul]at this
  omega
 refine⟨K9 h.some hs,?_,?_,?_⟩
 ·rw[ht,Nat.mul_add,Nat.mul_one,Nat.pow_add]
  exact Nat.mul_le_mul h.tot (Nat.le_of_lt a)
 ·rw[ht];exact Nat.mul_pos h.pos b
 ·rw[Hf _ _ h.some hs]
  have:=h.len
  omega
theorem Vp:∀(ps:List Part) (n:Nat) (d:Dist),Few n d->(∀p∈ps,Fits p)->Few (n+ps.length) (ps.foldl (fun a p=>sumOf a (partDist p)) d)
 |[],n,d,h,_=>h
 |p::ps,n,d,h,hf=>by
  rw[List.foldl_cons,List.length_cons]
  have:=Vp ps (n+1) _ (h.step (hf p List.mem_cons_self)) fun q hq=>hf q (List.mem_cons_of_mem _ hq)
  rw[show n+(ps.length+1)=n+1+ps.length by omega]
  exact this
theorem DF (hf:∀p∈ps,Fits p):Few ps.length (distOf ps):=by
 have:=Vp ps 0 _ Few.zero hf
 rw[Nat.zero_add]at this
 exact this
theorem YB (h:Vbrgag.read t=.ok ps):ps.length<=3/\∀p∈ps,Fits p:=by
 unfold Vbrgag.read at h
 split at h
 ·cases h
 ·split at h
  ·cases h
  ·rename_i hn
   have e:=Except.ok.inj h
   subst e
   have h1:¬PARTS<_:=fun z=>hn (Or.inl z)
   have h2:¬_=false:=fun z=>hn (Or.inr z)
   refine⟨Nat.not_lt.mp h1,fun p hp=>(PY p).mp ?_⟩
   have h3:=(Bool.not_eq_false _).mp h2
   exact List.all_eq_true.mp h3 p hp
def BX (d:Dist):List Nat:=below d 1::((List.range 14).map fun i:Nat=>d.at_ ((i:Int)+1))++[atLeast d 15]
theorem Cq (d:Dist):(BX d).length=16:=by
 unfold BX
 simp
theorem YW (d:Dist)(f g:Int->Int):(E d fun v=>f v+g v)=E d f+E d g:=fw _ _ _
theorem YX (d:Dist)(f:Nat->Int):∀(n k:Nat),S (fun i=>f (i+k)) ((List.range' k n).map fun i:Nat=>d.at_ ((i:Int)+1))=E d fun v=>if(k:Int)+1<=v/\v<(k:Int)+n+1 then f (v.toNat - 1)else 0
 |0,k=>by
  show(0:Int)=_
  have:(fun v:Int=>if(k:Int)+1<=v/\v<(k:Int)+(0:Nat)+1 then f (v.toNat - 1)else 0)=fun _=>0:=by
   funext v
   rw[if_neg (by omega)]
  rw[this]
  unfold E
  rw[LO]
 |n+1,k=>by
  rw[List.range'_succ,List.map_cons]
  show((d.at_ ((k:Int)+1):Nat):Int)*f (0+k)+S (fun i=>f (i+1+k)) _=_
  have e:(fun i=>f (i+1+k))=fun i=>f (i+(k+1)):=by funext i;congr 1;omega
  rw[e,YX d f n (k+1),Zw,Nat.zero_add]
  have e2:(E d fun x=>if x=(k:Int)+1 then 1 else 0)*f k=E d fun x=>if x=(k:Int)+1 then f k else 0:=by
   rw[Int.mul_comm,<-X2]
   refine BZ fun v=>?_
   split <;> simp
  rw[e2,<-YW]
  refine BZ fun v=>?_
  push_cast
  by_cases h:v=(k:Int)+1
  ·subst h
   rw[if_pos rfl,if_neg (by omega),if_pos (by omega),Int.add_zero]
   congr 1
  ·rw[if_neg h,Int.zero_add]
   by_cases h2:(k:Int)+1+1<=v/\v<(k:Int)+1+(n:Int)+1
   ·rw[if_pos h2,if_pos (by omega)]
   ·rw[if_neg h2,if_neg (by omega)]
theorem Mz (d:Dist)(f:Nat->Int):S f (BX d)=E d fun v=>f (min 15 v.toNat):=by
 unfold BX
 rw[PZ]
 show((below d 1:Nat):Int)*f 0+S (fun i=>f (i+1)) ((List.range 14).map fun i:Nat=>d.at_ ((i:Int)+1))+(((atLeast d 15:Nat):Int)*f _+0)=_
 have hl:(below d 1::(List.range 14).map fun i:Nat=>d.at_ ((i:Int)+1)).length+0=15:=by simp
 rw[hl,List.range_eq_range']
 have h:=YX d (fun i=>f (i+1)) 14 0
 simp only[Nat.add_zero]at h
 rw[h,U5,LA,Int.add_zero]
 have c:∀(g:Int->Int) (z:Int),E d g*z=E d fun v=>g v*z:=fun g z=>by
  rw[Int.mul_comm,<-X2]
  exact BZ fun v=>Int.mul_comm _ _
 rw[c,c,<-YW,<-YW]
 refine BZ fun v=>?_
 push_cast
 by_cases h1:v<1
 ·rw[if_pos h1,if_neg (by omega),if_neg (by omega)]
  have:min 15 v.toNat=0:=by omega
  rw[this];omega
 ·by_cases h2:15<=v
  ·rw[if_neg h1,if_neg (by omega),if_pos h2]
   have:min 15 v.toNat=15:=by omega
   rw[this];omega
  ·rw[if_neg h1,if_pos (by omega),if_neg h2]
   have:min 15 v.toNat=v.toNat - 1+1:=by omega
   rw[this];omega
theorem ZS (d:Dist):(actOf true 1 1 d).outs=BX d:=by
 refine Vq _ _ (by rw[KW,Cq]) fun f=>?_
 rw[UA,Mz]
 simp
theorem ax (f:Nat->Int)(x:Nat):∀(b:List Nat),S f (b.map fun y=>x*y)=(x:Int)*S f b:=SW f x
theorem ZT (good all:Nat)(d:Dist):(actOf false good all d).outs=((BX d).map fun y=>good*y).set 0 (((BX d).map fun y=>good*y).getD 0 0+(all - good)*d.total):=by
 refine Vq _ _ (by rw[KW,List.length_set,List.length_map,Cq]) fun f=>?_
 rw[UA,SX f _ 0 _ (by rw[List.length_map,Cq];decide),ax,Mz]
 omega
theorem Vr (heals:Bool)(good all:Nat)(d:Dist)(h:good<=all):(actOf heals good all d).outs.sum=(actOf heals good all d).total:=by
 have h1:=UA heals good all d fun _=>1
 rw[Rt]at h1
 have h2:(E d fun _=>1)=(d.total:Int):=(B3 d).symm
 rw[h2]at h1
 show _=all*d.total
 have:((actOf heals good all d).outs.sum:Int)=((all*d.total:Nat):Int):=by
  rw[h1]
  push_cast
  rw[Int.mul_one,<-Int.add_mul]
  congr 1
  omega
 omega
theorem PQ (d:Dist)(v:Int):atLeast d v<=d.total:=by
 have h1:=LA d v
 have h2:=B3 d
 have h3:0<=E d fun x=>(1:Int) - (if v<=x then 1 else 0):=Zx (fun k=>by show(0:Int)<=1 - (if v<=d.low+(k:Int)then 1 else 0);split <;> omega) _
 have h4:(E d fun x=>(1:Int) - (if v<=x then 1 else 0))=(d.total:Int) - (atLeast d v:Int):=by
  rw[h1,h2]
  have:=YW d (fun x=>(1:Int) - (if v<=x then 1 else 0)) (fun x=>if v<=x then 1 else 0)
  have e:(E d fun x=>(1:Int) - (if v<=x then 1 else 0)+(if v<=x then 1 else 0))=E d fun _=>1:=BZ fun x=>by split <;> omega
  rw[e]at this
  omega
 omega
def SN (f:Nat->Nat):List Nat->Nat
 |[]=>0
 |x::l=>x*f 0+SN (fun k=>f (k+1)) l
theorem mK (f:Nat->Nat):∀l:List Nat,((SN f l:Nat):Int)=S (fun k=>(f k:Int)) l:=by
 intro l
 induction l generalizing f with
 |nil=>rfl
 |cons x l ih=>
  show((x*f 0+SN (fun k=>f (k+1)) l:Nat):Int)=(x:Int)*(f 0:Int)+S (fun k=>(f (k+1):Int)) l
  rw[<-ih fun k=>f (k+1)]
  push_cast
  rfl
theorem cW (num:Nat->Nat):∀(l:List Nat) (k:Nat),((l.zip (List.range' k l.length)).map fun x=>x.1*num x.2).sum=SN (fun i=>num (i+k)) l
 |[],k=>rfl
 |x::l,k=>by
  rw[List.length_cons,List.range'_succ,List.zip_cons_cons,List.map_cons,List.sum_cons,cW num l (k+1)]
  show x*num k+_=x*num (0+k)+SN (fun i=>num (i+1+k)) l
  rw[Nat.zero_add]
  congr 2
  funext i
  congr 1
  omega
theorem cX (f:Nat->Nat)(t:Nat):∀l:List Nat,SN f (l.map fun n=>n*t)=t*SN f l:=by
 intro l
 induction l generalizing f with
 |nil=>rfl
 |cons x l ih=>
  show x*t*f 0+SN (fun k=>f (k+1)) (l.map fun n=>n*t)=t*(x*f 0+SN (fun k=>f (k+1)) l)
  rw[ih,Nat.mul_add,Nat.mul_comm x t,Nat.mul_assoc]
theorem mL:∀(l:List Nat),(∀k,k<l.length->f k<=M)->SN f l<=l.sum*M:=by
 intro l
 induction l generalizing f with
 |nil=>intro _;exact Nat.zero_le _
 |cons x l ih=>
  intro h
  show x*f 0+SN (fun k=>f (k+1)) l<=_
  rw[List.sum_cons,Nat.add_mul]
  exact Nat.add_le_add (Nat.mul_le_mul_left x (h 0 (by simp))) (ih fun k hk=>h (k+1) (by simp;omega))
theorem d8 {f:Nat->Nat}{l:List Nat}{i x:Nat}(h:l[i]? =some x):SN f (l.take (i+1))=SN f (l.take i)+x*f i:=by
 have:=Gu (fun k=>(f k:Int)) h
 rw[<-mK,<-mK]at this
 rw[<-Int.natCast_mul]at this
 omega
structure Good (act:Act):Prop where
 len:act.outs.length=16
 sum:act.outs.sum=act.total
 pos:0<act.total
 bd:act.total<=2 ^ 252
def scale (c:Nat)(act:Act):List Nat:=act.outs.map fun n=>n*(c / act.total)
def Dc (D:Duel)(mine:Bool)(act:Act)(c:Nat)(num:Nat->Nat->Nat)(a b:Nat):Nat:=SN (fun x=>num (FG D mine act a b x).1 (FG D mine act a b x).2) (scale c act)
theorem Sv (t:Nat):∀l:List Nat,(l.map fun n=>n*t).sum=l.sum*t
 |[]=>by simp
 |x::l=>by rw[List.map_cons,List.sum_cons,List.sum_cons,Sv t l,Nat.add_mul]
theorem SY (g:Good act)(h:act.total ∣ c):(scale c act).sum=c:=by
 unfold scale
 rw[Sv,g.sum,Nat.mul_div_cancel' h]
theorem Hl (c:Nat)(g:Good act):(scale c act).length=16:=by unfold scale;rw[List.length_map,g.len]
theorem Qg {D:Duel}{o:Nat->Nat->Q}{num:Nat->Nat->Nat}{den c:Nat}{act:Act}{a b:Nat}(mine:Bool)(hd:0<den)(hc:0<c)(g:Good act)(hdiv:act.total ∣ c)
  (ho:∀a b,a<=D.first.hp->b<=D.second.hp->o a b=make (num a b) den)(ha:a<=D.first.hp)(hb:b<=D.second.hp):Gg D o mine act a b=make (Dc D mine act c num a b) (c*den):=by
 unfold Gg
 rw[Ru hd,List.range_eq_range']
 rw[fold_same hd (fun x=>num (FG D mine act a b x).1 (FG D mine act a b x).2) (fun x=>o (FG D mine act a b x).1 (FG D mine act a b x).2) act.outs 0 0 fun x _ _ _=>by
  obtain⟨h1,h2⟩:=OZ D mine act x ha hb
  exact ho _ _ h1 h2]
 rw[cW (fun x=>num (FG D mine act a b x).1 (FG D mine act a b x).2),Nat.zero_add,Yy hd g.pos]
 refine Fh (Nat.mul_pos hd g.pos) (Nat.mul_pos hc hd) ?_
 unfold Dc scale
 rw[cX]
 obtain⟨t,ht⟩:=hdiv
 have e:c / act.total=t:=by rw[ht];exact Nat.mul_div_cancel_left t g.pos
 rw[e]
 simp only[Nat.add_zero]
 rw[ht]
 generalize SN (fun x=>num (FG D mine act a b x).1 (FG D mine act a b x).2) act.outs=z
 rw[show act.total*t*den=t*(den*act.total)by rw[Nat.mul_comm act.total t,Nat.mul_assoc,Nat.mul_comm act.total den],<-Nat.mul_assoc,Nat.mul_comm z t,Nat.mul_assoc]
theorem Zu {D:Duel}{num:Nat->Nat->Nat}{den c:Nat}{act:Act}{a b:Nat}(mine:Bool)(g:Good act)(hdiv:act.total ∣ c)
  (hn:∀a b,a<=D.first.hp->b<=D.second.hp->num a b<=den)(ha:a<=D.first.hp)(hb:b<=D.second.hp):Dc D mine act c num a b<=c*den:=by
 unfold Dc
 have:=mL (M:=den) (f:=fun x=>num (FG D mine act a b x).1 (FG D mine act a b x).2) (scale c act) fun k _=>by
  obtain⟨h1,h2⟩:=OZ D mine act k ha hb
  exact hn _ _ h1 h2
 rw[SY g hdiv]at this
 exact this
theorem Sw (hd:0<d):less (make a d) (make b d)=decide (a<b):=by
 rw[Yz hd hd]
 by_cases h:a<b
 ·rw[decide_eq_true h,decide_eq_true (Nat.mul_lt_mul_of_pos_right h hd)]
 ·rw[decide_eq_false h,decide_eq_false fun z=>h (Nat.lt_of_mul_lt_mul_right z)]
def MK (mine:Bool)(x:Nat)(r:List Nat):Nat:=r.foldl (fun m y=>if mine=true then(if m<y then y else m)else(if y<m then y else m)) x
theorem Sx (mine:Bool)(hd:0<d):∀(r:List Nat) (x:Nat),(r.map fun n=>make n d).foldl (fun m y=>if mine=true then(if less m y=true then y else m)else(if less y m=true then y else m)) (make x d)=make (MK mine x r) d
 |[],x=>rfl
 |y::r,x=>by
  rw[List.map_cons,List.foldl_cons,Sw hd,Sw hd]
  have e:(if mine=true then(if decide (x<y)=true then make y d else make x d)else(if decide (y<x)=true then make y d else make x d))=make (if mine=true then(if x<y then y else x)else(if y<x then y else x)) d:=by
   by_cases hm:mine=true
   ·rw[if_pos hm,if_pos hm]
    by_cases h:x<y
    ·rw[if_pos h,if_pos (decide_eq_true h)]
    ·rw[if_neg h,if_neg (by simpa using h)]
   ·rw[if_neg hm,if_neg hm]
    by_cases h:y<x
    ·rw[if_pos h,if_pos (decide_eq_true h)]
    ·rw[if_neg h,if_neg (by simpa using h)]
  rw[e,Sx mine hd r]
  rfl
theorem P6 (mine:Bool):∀(r:List Nat) (x:Nat),MK mine x r∈x::r
 |[],x=>by simp[MK]
 |y::r,x=>by
  show MK mine (if mine=true then(if x<y then y else x)else(if y<x then y else x)) r∈_
  have h:=P6 mine r (if mine=true then(if x<y then y else x)else(if y<x then y else x))
  rcases List.mem_cons.mp h with z|z
  ·rw[z]
   split
   ·split <;> simp
   ·split <;> simp
  ·exact List.mem_cons_of_mem _ (List.mem_cons_of_mem _ z)
theorem P7:∀(r:List Nat) (x:Nat),∀y∈x::r,y<=MK true x r
 |[],x,y,h=>by
  have:y=x:=by simpa using h
  rw[this];exact Nat.le_refl _
 |z::r,x,y,h=>by
  show y<=MK true (if true=true then(if x<z then z else x)else _) r
  rw[if_pos rfl]
  have ih:=P7 r (if x<z then z else x)
  rcases List.mem_cons.mp h with e|e
  ·subst e
   refine Nat.le_trans ?_ (ih _ List.mem_cons_self)
   split <;> omega
  ·rcases List.mem_cons.mp e with e|e
   ·subst e
    refine Nat.le_trans ?_ (ih _ List.mem_cons_self)
    split <;> omega
   ·exact ih y (List.mem_cons_of_mem _ e)
theorem P8:∀(r:List Nat) (x:Nat),∀y∈x::r,MK false x r<=y
 |[],x,y,h=>by
  have:y=x:=by simpa using h
  rw[this];exact Nat.le_refl _
 |z::r,x,y,h=>by
  show MK false (if false=true then _ else(if z<x then z else x)) r<=y
  rw[if_neg Bool.false_ne_true]
  have ih:=P8 r (if z<x then z else x)
  rcases List.mem_cons.mp h with e|e
  ·subst e
   refine Nat.le_trans (ih _ List.mem_cons_self) ?_
   split <;> omega
  ·rcases List.mem_cons.mp e with e|e
   ·subst e
    refine Nat.le_trans (ih _ List.mem_cons_self) ?_
    split <;> omega
   ·exact ih y (List.mem_cons_of_mem _ e)
def IL (mine:Bool)(ns:List Nat)(m:Nat):Prop:=m∈ns/\∀y∈ns,if mine=true then y<=m else m<=y
theorem Nv (hd:0<d)(h:IL mine ns m):bestOf mine (ns.map fun n=>make n d)=make m d:=by
 cases ns with
 |nil=>exact absurd h.1 (by simp)
 |cons x r=>
  show(r.map fun n=>make n d).foldl _ (make x d)=_
  rw[Sx mine hd]
  congr 1
  have hm:=P6 mine r x
  cases mine with
  |true=>
   have h1:=P7 r x m h.1
   have h2:=h.2 _ hm
   rw[if_pos rfl]at h2
   omega
  |false=>
   have h1:=P8 r x m h.1
   have h2:=h.2 _ hm
   rw[if_neg Bool.false_ne_true]at h2
   omega
theorem Qh (hd:0<d):∀(ns:List Nat) (j:Nat),ns[j]? =some m->(∀i,i<j->ns[i]?≠some m)->((ns.map fun n=>make n d).findIdx? fun w=>same w (make m d))=some j
 |[],j,h,_=>by simp at h
 |x::r,j,h,hf=>by
  rw[List.map_cons,List.findIdx?_cons]
  by_cases e:x=m
  ·subst e
   rw[(same_iff _ _).mpr rfl]
   cases j with
   |zero=>rfl
   |succ j=>exact absurd rfl (hf 0 (by omega))
  ·have:same (make x d) (make m d)=false:=by
    cases q:same (make x d) (make m d)with
    |false=>rfl
    |true=>
     have z:=aB hd hd ((same_iff _ _).mp q)
     exact absurd (Nat.eq_of_mul_eq_mul_right hd z) e
   rw[this]
   cases j with
   |zero=>exact absurd (Option.some.inj h) e
   |succ j=>
    have ih:=Qh hd r j h fun i hi z=>hf (i+1) (by omega) z
    rw[ih]
    rfl
structure Rep (D:Duel)(n:Nat)(mine:Bool)(num:Nat->Nat->Nat)(den:Nat):Prop where
 pos:0<den
 bd:den<=2 ^ (756*n)
 eq:∀a b,a<=D.first.hp->b<=D.second.hp->Jl D n mine a b=make (num a b) den
 le:∀a b,a<=D.first.hp->b<=D.second.hp->num a b<=den
structure Ff (s:Side)(c:Nat):Prop where
 pos:0<c
 bd:c<=2 ^ (252*s.acts.length)
 few:s.acts.length<=3
 good:∀act∈s.acts,Good act/\act.total ∣ c
theorem Ff.bd3 (h:Ff s c):c<=2 ^ 756:=Nat.le_trans h.bd (Nat.pow_le_pow_right (by decide) (by have:=h.few;omega))
theorem Ff.new (hp:Nat):Ff {hp:=hp,acts:=[]} 1:=⟨by decide,by show 1<=2 ^ (252*0);decide,Nat.zero_le _,fun a h=>absurd h (by simp)⟩
theorem Ff.more (h:Ff s c)(g:Good act)(hl:s.acts.length<3):Ff {s with acts:=s.acts++[act]} (Nat.lcm c act.total):=by
 have hle:Nat.lcm c act.total<=c*act.total:=Nat.le_of_dvd (Nat.mul_pos h.pos g.pos) (Nat.lcm_dvd_mul c act.total)
 refine⟨Nat.lcm_pos h.pos g.pos,?_,?_,fun x hx=>?_⟩
 ·show _<=2 ^ (252*(s.acts++[act]).length)
  rw[List.length_append,List.length_singleton,Nat.mul_add,Nat.mul_one,Nat.pow_add]
  exact Nat.le_trans hle (Nat.mul_le_mul h.bd g.bd)
 ·show(s.acts++[act]).length<=3
  rw[List.length_append,List.length_singleton];omega
 ·rcases List.mem_append.mp hx with z|z
  ·obtain⟨g1,d1⟩:=h.good x z
   exact⟨g1,Nat.dvd_trans d1 (Nat.dvd_lcm_left c act.total)⟩
  ·have:x=act:=by simpa using z
   subst this
   exact⟨g,Nat.dvd_lcm_right c x.total⟩
def M4 (a b:Nat):Nat:=if 0<a/\b=0 then 1 else 0
theorem Rep.zero (D:Duel)(mine:Bool):Rep D 0 mine M4 1 where
 pos:=by decide
 bd:=by show 1<=2 ^ (756*0);decide
 eq:=fun a b _ _=>by
  show(ended a b).getD Vbrgag.zero=make (M4 a b) 1
  unfold ended M4
  by_cases h:a=0
  ·rw[if_pos h,if_neg (by omega)];rfl
  ·rw[if_neg h]
   by_cases h2:b=0
   ·rw[if_pos h2,if_pos ⟨by omega,h2⟩];rfl
   ·rw[if_neg h2,if_neg (fun z=>h2 z.2)];rfl
 le:=fun a b _ _=>by unfold M4;split <;> omega
structure jK (D:Duel)(mine:Bool)(c:Nat)(num:Nat->Nat->Nat)(den:Nat)(num':Nat->Nat->Nat):Prop where
 a0:∀b,num' 0 b=0
 b0:∀a,0<a->num' a 0=c*den
 go:∀a b,0<a->0<b->a<=D.first.hp->b<=D.second.hp->IL mine ((D.side mine).acts.map fun act=>Dc D mine act c num a b) (num' a b)
theorem Nw {D:Duel}{k:Nat}{mine:Bool}{num:Nat->Nat->Nat}{den c:Nat}(R:Rep D k (!mine) num den)(hs:Ff (D.side mine) c){a b:Nat}(ha:a<=D.first.hp)(hb:b<=D.second.hp):
  ((D.side mine).acts.map fun act=>Gg D (Jl D k (!mine)) mine act a b)=(((D.side mine).acts.map fun act=>Dc D mine act c num a b).map fun n=>make n (c*den)):=by
 rw[List.map_map]
 refine List.map_congr_left fun act hact=>?_
 obtain⟨g,d⟩:=hs.good act hact
 exact Qg mine R.pos hs.pos g d R.eq ha hb
theorem Rep.step {D:Duel}{k:Nat}{mine:Bool}{num num':Nat->Nat->Nat}{den c:Nat}(R:Rep D k (!mine) num den)(hs:Ff (D.side mine) c)(N:jK D mine c num den num'):Rep D (k+1) mine num' (c*den) where
 pos:=Nat.mul_pos hs.pos R.pos
 bd:=by
  rw[Nat.mul_add,Nat.mul_one,Nat.pow_add,Nat.mul_comm]
  exact Nat.mul_le_mul R.bd hs.bd3
 eq:=fun a b ha hb=>by
  show(match ended a b with
   |some q=>q
   |none=>bestOf mine ((D.side mine).acts.map fun act=>Gg D (Jl D k (!mine)) mine act a b))=_
  have hp:=Nat.mul_pos hs.pos R.pos
  unfold ended
  by_cases h:a=0
  ·subst h
   rw[if_pos rfl,N.a0]
   exact Ru hp
  ·rw[if_neg h]
   by_cases h2:b=0
   ·subst h2
    rw[if_pos rfl,N.b0 a (by omega)]
    exact aD hp
   ·rw[if_neg h2]
    dsimp only
    rw[Nw R hs ha hb]
    exact Nv hp (N.go a b (by omega) (by omega) ha hb)
 le:=fun a b ha hb=>by
  by_cases h:a=0
  ·subst h;rw[N.a0];exact Nat.zero_le _
  ·by_cases h2:b=0
   ·subst h2;rw[N.b0 a (by omega)];exact Nat.le_refl _
   ·obtain⟨hm,_⟩:=N.go a b (by omega) (by omega) ha hb
    obtain⟨act,hact,e⟩:=List.mem_map.mp hm
    obtain⟨g,d⟩:=hs.good act hact
    rw[<-e]
    exact Zu mine g d R.le ha hb
theorem Z2 {D:Duel}{n:Nat}{mine:Bool}{num:Nat->Nat->Nat}{den:Nat}(R:Rep D n mine num den){a b:Nat}(ha:a<=D.first.hp)(hb:b<=D.second.hp):told (D.odds n mine a b)=frac (num a b:Int) (den:Int):=by
 rw[eK D n mine ha hb,R.eq a b ha hb,Rv R.pos]
theorem Xz {D:Duel}{k:Nat}{mine:Bool}{num:Nat->Nat->Nat}{den c:Nat}{act:Act}(R:Rep D k (!mine) num den)(hs:Ff (D.side mine) c)(hact:act∈(D.side mine).acts){a b:Nat}(ha:a<=D.first.hp)(hb:b<=D.second.hp):
  told (worthOf D (tableOf D k (!mine)) mine act a b)=frac (Dc D mine act c num a b:Int) ((c*den:Nat):Int):=by
 obtain⟨g,d⟩:=hs.good act hact
 rw[LR D _ (Jl D k (!mine)) (fun a' b' h1 h2=>MB D k (!mine) a' b' h1 h2) mine act ha hb,Qg mine R.pos hs.pos g d R.eq ha hb,Rv (Nat.mul_pos hs.pos R.pos)]
theorem Z8 {D:Duel}{k:Nat}{mine:Bool}{num:Nat->Nat->Nat}{den c m j:Nat}(R:Rep D k (!mine) num den)(hs:Ff (D.side mine) c){a b:Nat}(ha:a<=D.first.hp)(hb:b<=D.second.hp)(h0:0<a)(h1:0<b)
  (hw:IL mine ((D.side mine).acts.map fun act=>Dc D mine act c num a b) m)(hj:((D.side mine).acts.map fun act=>Dc D mine act c num a b)[j]? =some m)
  (hf:∀i,i<j->((D.side mine).acts.map fun act=>Dc D mine act c num a b)[i]?≠some m):D.best (k+1) mine a b=some j:=by
 unfold Duel.best
 have he:ended a b=none:=by unfold ended;rw[if_neg (by omega),if_neg (by omega)]
 rw[he]
 dsimp only
 have e:((D.side mine).acts.map fun act=>worthOf D (tableOf D k (!mine)) mine act a b)=(((D.side mine).acts.map fun act=>Dc D mine act c num a b).map fun n=>make n (c*den)):=by
  rw[<-Nw R hs ha hb]
  exact List.map_congr_left fun act _=>LR D _ _ (fun a' b' h1 h2=>MB D k (!mine) a' b' h1 h2) mine act ha hb
 have hp:=Nat.mul_pos hs.pos R.pos
 rw[e,Nv hp hw]
 exact Qh hp _ j hj hf
theorem Yx (D:Duel)(n:Nat)(mine:Bool)(a b:Nat)(h:n=0\/a=0\/b=0):D.best n mine a b=none:=by
 unfold Duel.best
 cases n with
 |zero=>rfl
 |succ k=>
  have he:∃q,ended a b=some q:=by
   unfold ended
   rcases h with z|z|z
   ·omega
   ·rw[if_pos z];exact⟨_,rfl⟩
   ·by_cases ha:a=0
    ·rw[if_pos ha];exact⟨_,rfl⟩
    ·rw[if_neg ha,if_pos z];exact⟨_,rfl⟩
  obtain⟨q,e⟩:=he
  rw[e]
theorem G7 (f j s:Nat):rollDice f (j+1) s=((1+drawn (nextOf s) f)::(rollDice f j (nextOf s)).1,(rollDice f j (nextOf s)).2):=by simp only[rollDice]
theorem Eo (f:Nat):∀(j s:Nat),rollDice f (j+1) s=((rollDice f j s).1++[1+drawn (nextOf (rollDice f j s).2) f],nextOf (rollDice f j s).2)
 |0,s=>by simp only[rollDice,List.nil_append]
 |j+1,s=>by
  have ih:=Eo f j (nextOf s)
  rw[G7 f (j+1) s,ih,G7 f j s]
  simp only[List.cons_append]
theorem FL (f:Nat):∀(j s:Nat),(rollDice f j s).1.length=j
 |0,_=>rfl
 |j+1,s=>by rw[Eo,List.length_append,FL f j s];rfl
theorem JY:∀(a:List Part) (p:Part) (s:Nat),(rollParts (a++[p]) s).1=(rollParts a s).1+(rollPart p (rollParts a s).2.2).1/\(rollParts (a++[p]) s).2.2=(rollPart p (rollParts a s).2.2).2.2
 |[],p,s=>by
  show((rollPart p s).1+0=0+(rollPart p s).1)/\_
  exact⟨by omega,rfl⟩
 |q::a,p,s=>by
  obtain⟨h1,h2⟩:=JY a p (rollPart q s).2.2
  show((rollPart q s).1+(rollParts (a++[p]) (rollPart q s).2.2).1=(rollPart q s).1+(rollParts a (rollPart q s).2.2).1+(rollPart p (rollParts a (rollPart q s).2.2).2.2).1)/\(rollParts (a++[p]) (rollPart q s).2.2).2.2=(rollPart p (rollParts a (rollPart q s).2.2).2.2).2.2
  rw[h1,h2]
  exact⟨by omega,rfl⟩
def F0 (ps:List Part):Nat->Nat->Nat
 |0,s=>s
 |j+1,s=>(rollParts ps (F0 ps j s)).2.2
theorem Jo (ps:List Part):∀(j s:Nat),F0 ps j (rollParts ps s).2.2=F0 ps (j+1) s
 |0,s=>rfl
 |j+1,s=>by
  show(rollParts ps (F0 ps j (rollParts ps s).2.2)).2.2=(rollParts ps (F0 ps (j+1) s)).2.2
  rw[Jo ps j s]
theorem MC (ps:List Part):∀(j s:Nat),rollsOf ps (j+1) s=rollsOf ps j s++[(rollParts ps (F0 ps j s)).1]
 |0,s=>rfl
 |j+1,s=>by
  show(rollParts ps s).1::rollsOf ps (j+1) (rollParts ps s).2.2=(rollParts ps s).1::rollsOf ps j (rollParts ps s).2.2++[_]
  rw[MC ps j,Jo]
  rfl
theorem Q3 (h:Fits p)(hz:p.faces≠0)(s:Nat):(rollPart p s).1=(if p.minus=true then -1 else 1)*(((hold p.best p.keep (rollDice p.faces p.count s).1).sum:Nat):Int)/\(rollPart p s).2.2=(rollDice p.faces p.count s).2:=by
 obtain⟨_,_,_,_,_,_,hk,_⟩:=h.dice hz
 unfold rollPart
 rw[if_neg hz]
 refine⟨?_,rfl⟩
 dsimp only
 rw[Yh p _ (FL _ _ _) hk]
 split <;> omega
theorem Tz (hz:p.faces=0)(s:Nat):(rollPart p s).1=(if p.minus=true then -1 else 1)*(p.count:Int)/\(rollPart p s).2.2=s:=by
 unfold rollPart
 rw[if_pos hz]
 refine⟨?_,rfl⟩
 dsimp only
 split <;> omega
def Dq (D:Duel)(mine:Bool)(c:Nat)(num:Nat->Nat->Nat)(a b:Nat):List Nat:=(D.side mine).acts.map fun act=>Dc D mine act c num a b
def Ym (mine:Bool):List Nat->Nat
 |[]=>0
 |x::r=>MK mine x r
theorem JF (h:ns≠[]):IL mine ns (Ym mine ns):=by
 cases ns with
 |nil=>exact absurd rfl h
 |cons x r=>
  refine⟨P6 mine r x,fun y hy=>?_⟩
  cases mine with
  |true=>rw[if_pos rfl];exact P7 r x y hy
  |false=>rw[if_neg Bool.false_ne_true];exact P8 r x y hy
theorem Xl (h:IL mine ns m)(k:IL mine ns n):m=n:=by
 have h1:=h.2 n k.1
 have h2:=k.2 m h.1
 cases mine with
 |true=>rw[if_pos rfl]at h1 h2;omega
 |false=>rw[if_neg Bool.false_ne_true]at h1 h2;omega
theorem Sq (h:IL mine ns m):m=Ym mine ns:=by
 refine Xl h (JF fun z=>?_)
 rw[z]at h
 exact absurd h.1 (by simp)
def Ge (D:Duel)(mine:Bool)(c:Nat)(num:Nat->Nat->Nat)(den:Nat)(a b:Nat):Nat:=if a=0 then 0 else if b=0 then c*den else Ym mine (Dq D mine c num a b)
theorem br {D:Duel}{mine:Bool}{c:Nat}{num:Nat->Nat->Nat}{den:Nat}(h:(D.side mine).acts≠[]):jK D mine c num den (Ge D mine c num den) where
 a0:=fun b=>by unfold Ge;rw[if_pos rfl]
 b0:=fun a ha=>by unfold Ge;rw[if_neg (by omega),if_pos rfl]
 go:=fun a b ha hb _ _=>by
  unfold Ge
  rw[if_neg (by omega),if_neg (by omega)]
  refine JF fun z=>h ?_
  unfold Dq at z
  exact List.map_eq_nil_iff.mp z
end Dm
namespace L2
open PySem PySem.Spec PyProof.Rows
abbrev Key:=Sum Int Str
def Ry:Key->Value->Bool
 | .inl k,v=>Value.isInt k v
 | .inr x,v=>Value.isStrOf x v
def mX (w:World):Key->Int
 | .inl k=>hashInt k
 | .inr x=>hashStr w x
theorem Bu:∀{k:Key}{v:Value},Ry k v=true->(∃i t,k=Sum.inl i/\v=Value.int i t)\/(∃x t,k=Sum.inr x/\v=Value.str x t)
 | .inl i,v,h=>by
  obtain⟨t,e⟩:=Value.isInt_shape (k:=i) (v:=v) h
  exact .inl ⟨i,t,rfl,e⟩
 | .inr x,v,h=>by
  obtain⟨t,e⟩:=Value.isStrOf_shape (x:=x) (v:=v) h
  exact .inr ⟨x,t,rfl,e⟩
theorem Rz (i:Int)(t:Tok):Ry (.inl i) (.int i t)=true:=by simp[Ry,Value.isInt]
theorem Y5 (x:Str)(t:Tok):Ry (.inr x) (.str x t)=true:=by simp[Ry,Value.isStrOf]
theorem iU (a b:Int):decide ((Sum.inl a:Key)=Sum.inl b)=(a == b):=by
 by_cases e:a=b
 ·subst e;simp
 ·have h:¬(Sum.inl a:Key)=Sum.inl b:=fun q=>e (Sum.inl.inj q)
  rw[decide_eq_false h]
  exact(beq_eq_false_iff_ne.mpr e).symm
theorem iV (a b:Str):decide ((Sum.inr a:Key)=Sum.inr b)=decide (a=b):=by
 by_cases e:a=b
 ·subst e;simp
 ·have h:¬(Sum.inr a:Key)=Sum.inr b:=fun q=>e (Sum.inr.inj q)
  rw[decide_eq_false h,decide_eq_false e]
theorem iW (a:Int)(b:Str):decide ((Sum.inl a:Key)=Sum.inr b)=false:=decide_eq_false (fun q=>nomatch q)
theorem iX (a:Str)(b:Int):decide ((Sum.inr a:Key)=Sum.inl b)=false:=decide_eq_false (fun q=>nomatch q)
def BQ (prog:Program)(w:World):PySem.KeyKind prog w Key where
 is:=Ry
 hash:=mX w
 inj:=fun v a b ha hb=>by
  rcases Bu ha with⟨i,t,rfl,rfl⟩|⟨x,t,rfl,rfl⟩
  ·rcases Bu hb with⟨j,u,rfl,e⟩|⟨y,u,rfl,e⟩
   ·injection e with e1 _;rw[e1]
   ·exact nomatch e
  ·rcases Bu hb with⟨j,u,rfl,e⟩|⟨y,u,rfl,e⟩
   ·exact nomatch e
   ·injection e with e1 _;rw[e1]
 byValue:=fun k v h=>by
  rcases Bu h with⟨i,t,rfl,rfl⟩|⟨x,t,rfl,rfl⟩ <;> rfl
 pyHash:=fun hv h=>by
  rcases Bu hv with⟨i,t,rfl,rfl⟩|⟨x,t,rfl,rfl⟩
  ·exact wpAny_pyHash_int h
  ·exact wpAny_pyHash_str h
 eqBool:=fun hu hv h=>by
  rcases Bu hu with⟨i,t,rfl,rfl⟩|⟨x,t,rfl,rfl⟩
  ·rcases Bu hv with⟨j,u,rfl,rfl⟩|⟨y,u,rfl,rfl⟩
   ·rw[iU]at h;exact wpAny_eqBool_int h
   ·rw[iW]at h;exact SeqAt.EqAt.int_str i t y u _ _ _ _ h
  ·rcases Bu hv with⟨j,u,rfl,rfl⟩|⟨y,u,rfl,rfl⟩
   ·rw[iX]at h;exact SeqAt.EqAt.str_int x t j u _ _ _ _ h
   ·rw[iV]at h;exact wpAny_eqBool_str h
 «strs»:=fun k x t v h=>by
  rcases Bu h with⟨i,u,rfl,e⟩|⟨y,u,rfl,e⟩
  ·exact nomatch e
  ·injection e with e1 _
   subst e1
   cases v <;> rfl
theorem VL (prog:Program)(w:World)(i:Int)(t:Tok):(BQ prog w).is (.inl i) (.int i t)=true:=Rz i t
theorem VM (prog:Program)(w:World)(x:Str)(t:Tok):(BQ prog w).is (.inr x) (.str x t)=true:=Y5 x t
inductive V where
 |non|bl (b:Bool)|int (i:Int)|str (x:Str)|byt (b:Array UInt8)|flt (b:UInt64)|ref (a:Addr)|ty (n:String)
 deriving DecidableEq
def RelV:V->Value->Prop
 | .non,u=>u=Value.none
 | .bl b,u=>u=Value.bool b
 | .int i,u=>∃t,u=Value.int i t
 | .str x,u=>∃t,u=Value.str x t
 | .byt b,u=>∃t,u=Value.bytes b t
 | .flt b,u=>∃t,u=Value.float b t
 | .ref a,u=>u=Value.ref a
 | .ty n,u=>u=Value.type n
abbrev Vals:List V->List Value->Prop:=Paired RelV
theorem Vals.length (r:Vals xs us):xs.length=us.length:=Paired.length r
theorem Vals.get:∀{xs:List V}{us:List Value}{i:Nat}{x:V},Vals xs us->xs[i]? =some x->∃u,us[i]? =some u/\RelV x u
 |_,_,_,_,.nil,e=>by simp at e
 |_,_,0,_,.cons r _,e=>by simp at e;subst e;exact⟨_,rfl,r⟩
 |_,_,i+1,x,.cons _ t,e=>by
  obtain⟨u,h1,h2⟩:=Vals.get (i:=i) (x:=x) t (by simpa using e)
  exact⟨u,by simpa using h1,h2⟩
theorem Vals.set (r:RelV x u):∀{xs:List V}{us:List Value}(i:Nat),Vals xs us->Vals (xs.set i x) (us.set i u)
 |_,_,_,.nil=>.nil
 |_,_,0,.cons _ t=>.cons r t
 |_,_,i+1,.cons q t=>.cons q (Vals.set r i t)
theorem Vals.append:∀{xs ys:List V}{us ws:List Value},Vals xs us->Vals ys ws->Vals (xs++ys) (us++ws)
 |_,_,_,_,.nil,s=>s
 |_,_,_,_,.cons r t,s=>.cons r (Vals.append t s)
theorem Vals.take:∀{xs:List V}{us:List Value}(n:Nat),Vals xs us->Vals (xs.take n) (us.take n)
 |_,_,0,_=>.nil
 |_,_,_+1,.nil=>.nil
 |_,_,n+1,.cons r t=>.cons r (Vals.take n t)
theorem Vals.drop:∀{xs:List V}{us:List Value}(n:Nat),Vals xs us->Vals (xs.drop n) (us.drop n)
 |_,_,0,r=>r
 |_,_,_+1,.nil=>.nil
 |_,_,n+1,.cons _ t=>Vals.drop n t
def Iq:Option V->Option Value->Prop
 |some v,some u=>RelV v u
 |none,none=>True
 |_,_=>False
def KV {κ:Type}:List (κ×V)->List (κ×Value)->Prop:=Paired fun(p:κ×V) (q:κ×Value)=>p.1=q.1/\RelV p.2 q.2
def kV:Key->V
 | .inl i=>.int i
 | .inr x=>.str x
inductive HO where
 |lst (xs:List V)
 |tup (xs:List V)
 |dK (kvs:List (Key×V))|dT (kvs:List (List Key×V))
 |set (S:Int->Bool) (n:Nat)
 |ins (C dx:Addr) (fs:List (Str×V))
 |own (x:Addr)
 |xd (fs:List (Str×V))
 |met (f x:Addr)
 |rng (lo hi:Int)
 |frz (o:Obj) (u:HO)
 |tbl (ps:Array Value)
 |ext (φ:Heap->Prop)
abbrev Hp:=Addr->Option HO
def upd (H:Hp)(a:Addr)(o:HO):Hp:=fun b=>if b=a then some o else H b
theorem AB:upd H a o a=some o:=by unfold upd;rw[if_pos rfl]
theorem AI (h:b≠a):upd H a o b=H b:=by unfold upd;rw[if_neg h]
theorem Af {H:Hp}{a b:Addr}{o u:HO}(h:H a=some o)(h':H b=some u)(d:o≠u):a≠b:=by
 intro e;subst e;rw[h]at h';exact d (Option.some.inj h')
theorem AM {H:Hp}{a b:Addr}{o:HO}(h:H a=some o)(h':H b=none):a≠b:=by
 intro e;subst e;rw[h]at h';cases h'
section
variable (P:Program) (w:World)
def Bk (H:Hp)(h:Heap)(a:Addr):HO->Prop
 | .lst xs=>xs.length<=sizeLine/\∃(its:List Value) (n:Nat),Vals xs its/\h.get? a=some {cls:=.type "list",data:=.seq its.toArray n}
 | .tup xs=>xs.length<=sizeLine/\∃its:List Value,Vals xs its/\IsTup h a its.toArray
 | .dK kvs=>kvs.length<=sizeLine/\(a == sysModules)=false/\∃vs,KV kvs vs/\h.DictOf (BQ P w) a vs
 | .dT kvs=>kvs.length<=sizeLine/\(a == sysModules)=false/\∃xs:List (List Key×Addr×Value),
   Paired (fun(p:List Key×V) (q:List Key×Addr×Value)=>p.1=q.1/\H q.2.1=some (.tup (p.1.map kV))/\RelV p.2 q.2.2) kvs xs/\
   ∃o es ep,h.get? a=some o/\o.ExactDict/\o.data=.dict es ep/\es.toList=xs.map (entryOfKey (tupleKind (BQ P w)))/\(xs.map (·.1)).Nodup
 | .set S n=>h.SetOf (intKind P w) a S n
 | .ins C dx fs=>H dx=some (.own a)/\fs.length<=1000/\dx≠a/\h.get? a=some (PySem.W.instObj C dx)/\
   ∃mA,h.Ns1 dx mA/\(∀f,Iq (fs.lookup f) (mA f))/\PySem.Within mA (fs.map (·.1))
 | .own _=>∃o,h.get? a=some o
 | .xd fs=>∃mA,h.Ns1 a mA/\∀f,Iq (fs.lookup f) (mA f)
 | .rng lo hi=>∃t u v,h.get? a=some {cls:=.type "range",data:=.fields #[.int lo t,.int hi u,.int 1 v]}
 | .frz o u=>h.get? a=some o/\Bk H h a u
 | .tbl ps=>h.get? a=some {cls:=.none,data:=.fields ps}
 | .met f x=>h.get? a=some (PySem.W.methodObj (.ref f) (.ref x))
 | .ext φ=>φ h/\(∃o,h.get? a=some o)/\∀h1 h2:Heap,φ h1->(∀o,h1.get? a=some o->h2.get? a=some o)->φ h2
def HOk (H:Hp)(h:Heap):Prop:=∀a o,H a=some o->Bk P w H h a o
end
section
variable {P:Program}{w:World}{H H':Hp}{h h':Heap}{a:Addr}{o:HO}
theorem Bk.lt (x:Bk P w H h a o):a<h.objs.size:=by
 cases o with
 |lst xs=>obtain⟨_,_,_,_,e⟩:=x;exact Heap.lt_size e
 |tup xs=>obtain⟨_,_,_,p⟩:=x;exact p.lt
 |dK kvs=>obtain⟨_,_,_,_,o,_,_,e,_⟩:=x;exact Heap.lt_size e
 |dT kvs=>obtain⟨_,_,_,_,o,_,_,e,_⟩:=x;exact Heap.lt_size e
 |set S n=>obtain⟨o,_,_,_,e,_⟩:=x;exact Heap.lt_size e
 |ins C dx fs=>obtain⟨_,_,_,e,_⟩:=x;exact Heap.lt_size e
 |own y=>obtain⟨_,e⟩:=x;exact Heap.lt_size e
 |xd fs=>obtain⟨_,⟨_,_,_,e,_⟩,_⟩:=x;exact Heap.lt_size e
 |rng lo hi=>obtain⟨_,_,_,e⟩:=x;exact Heap.lt_size e
 |frz ob u=>obtain⟨e,_⟩:=x;exact Heap.lt_size e
 |tbl ps=>exact Heap.lt_size (show h.get? a=some _ from x)
 |met f y=>exact Heap.lt_size (show h.get? a=some _ from x)
 |ext φ=>obtain⟨_,⟨_,e⟩,_⟩:=x;exact Heap.lt_size e
theorem Paired.dA:∀{l₁:List α}{l₂:List β},Paired F l₁ l₂->(∀a b,F a b->G a b)->Paired G l₁ l₂
 |_,_,.nil,_=>.nil
 |_,_,.cons r t,f=>.cons (f _ _ r) (Paired.dA t f)
theorem Bk.Io (x:Bk P w H h a o)(k:∀b u,(b=a\/H b=some (.own a))->h.get? b=some u->h'.get? b=some u)
  (ho:∀b,H b=some (.own a)->H' b=some (.own a))(ht:∀b xs,H b=some (.tup xs)->H' b=some (.tup xs)):Bk P w H' h' a o:=by
 induction o with
 |lst xs=>obtain⟨z,its,n,r,e⟩:=x;exact⟨z,its,n,r,k _ _ (.inl rfl) e⟩
 |tup xs=>obtain⟨z,its,r,ob,e,c⟩:=x;exact⟨z,its,r,ob,k _ _ (.inl rfl) e,c⟩
 |dK kvs=>obtain⟨z,y,vs,r,ob,es,ep,e,c⟩:=x;exact⟨z,y,vs,r,ob,es,ep,k _ _ (.inl rfl) e,c⟩
 |dT kvs=>
  obtain⟨z,y,xs,r,ob,es,ep,e,c⟩:=x
  exact⟨z,y,xs,Paired.dA r fun p q z=>⟨z.1,ht _ _ z.2.1,z.2.2⟩,ob,es,ep,k _ _ (.inl rfl) e,c⟩
 |set S n=>obtain⟨ob,es,ep,t,e,c⟩:=x;exact⟨ob,es,ep,t,k _ _ (.inl rfl) e,c⟩
 |ins C dx fs=>
  obtain⟨d,z,ne,e,mA,⟨od,es,ep,e2,c⟩,r⟩:=x
  exact⟨ho _ d,z,ne,k _ _ (.inl rfl) e,mA,⟨od,es,ep,k _ _ (.inr d) e2,c⟩,r⟩
 |own y=>obtain⟨ob,e⟩:=x;exact⟨ob,k _ _ (.inl rfl) e⟩
 |xd fs=>obtain⟨mA,⟨od,es,ep,e,c⟩,r⟩:=x;exact⟨mA,⟨od,es,ep,k _ _ (.inl rfl) e,c⟩,r⟩
 |rng lo hi=>obtain⟨t,u,v,e⟩:=x;exact⟨t,u,v,k _ _ (.inl rfl) e⟩
 |frz ob u ih=>obtain⟨e,q⟩:=x;exact⟨k _ _ (.inl rfl) e,ih q⟩
 |tbl ps=>
  have e:h.get? a=some {cls:=.none,data:=.fields ps}:=x
  show h'.get? a=some {cls:=.none,data:=.fields ps}
  exact k a _ (.inl rfl) e
 |met f y=>
  have e:h.get? a=some (PySem.W.methodObj (.ref f) (.ref y)):=x
  show h'.get? a=some (PySem.W.methodObj (.ref f) (.ref y))
  exact k a _ (.inl rfl) e
 |ext φ=>obtain⟨p,⟨o,e⟩,st⟩:=x;exact⟨st _ _ p fun o q=>k _ _ (.inl rfl) q,⟨o,k _ _ (.inl rfl) e⟩,st⟩
theorem HOk.lt (x:HOk P w H h)(e:H a=some o):a<h.objs.size:=(x a o e).lt
theorem HOk.fresh (x:HOk P w H h)(e:h.objs.size<=a):H a=none:=by
 cases q:H a with
 |none=>rfl
 |some u=>exact absurd (Nat.lt_of_lt_of_le (x.lt q) e) (Nat.lt_irrefl _)
theorem HOk.kept (x:HOk P w H h)(k:∀b u,h.get? b=some u->h'.get? b=some u):HOk P w H h':=fun a o e=>
 (x a o e).Io (fun b u _ q=>k b u q) (fun _ q=>q) fun _ _ q=>q
theorem HOk.laid (x:HOk P w H h)(k:∀b u,h.get? b=some u->h'.get? b=some u)(hp:h.objs.size<=a)(new:Bk P w (upd H a o) h' a o):HOk P w (upd H a o) h':=fun b u e=>by
 have hn:=x.fresh hp
 by_cases hb:b=a
 ·subst hb;rw[AB]at e;cases e;exact new
 ·rw[AI hb]at e
  exact(x b u e).Io (fun c v _ q=>k c v q) (fun c q=>by rw[AI (AM q hn)];exact q) fun c xs q=>by rw[AI (AM q hn)];exact q
end
def Rd (H:Hp)(a:Addr)(u:HO):Prop:=H a=some u\/∃o,H a=some (.frz o u)
theorem Rd.ok (r:Rd H a u)(x:HOk P w H h):Bk P w H h a u:=by
 rcases r with r|⟨o,r⟩
 ·exact x a u r
 ·obtain⟨_,q⟩:=x a _ r
  exact q
def Mut:Option HO->Prop
 |some (.lst _)=>True
 |some (.dK _)=>True
 |some (.dT _)=>True
 |some (.set _ _)=>True
 |some (.ins _ _ _)=>True
 |some (.ext _)=>True
 |_=>False
section
variable {P:Program}{w:World}{H:Hp}{h h':Heap}{x e:Addr}{o':HO}
theorem HOk.write (ok:HOk P w H h)(mu:Mut (H x))(he:e=x\/H e=some (.own x))(k:∀b u,b≠e->h.get? b=some u->h'.get? b=some u)(heo:∃u,h'.get? e=some u)
  (new:Bk P w (upd H x o') h' x o'):HOk P w (upd H x o') h':=fun b u q=>by
 have nown:∀c y,H c=some (.own y)->c≠x:=fun c y r z=>by subst z;rw[r]at mu;exact mu
 have ntup:∀c xs,H c=some (.tup xs)->c≠x:=fun c xs r z=>by subst z;rw[r]at mu;exact mu
 by_cases hb:b=x
 ·subst hb;rw[AB]at q;cases q;exact new
 ·rw[AI hb]at q
  by_cases hbe:b=e
  ·have q':H b=some (.own x):=by
    rcases he with z|z
    ·exact absurd (hbe.trans z) hb
    ·rw[hbe];exact z
   rw[q]at q';cases q'
   obtain⟨v,hv⟩:=heo
   exact⟨v,by rw[hbe];exact hv⟩
  ·refine(ok b u q).Io (fun c v hc r=>k c v ?_ r) (fun c r=>by rw[AI (nown c b r)];exact r) fun c xs r=>by rw[AI (ntup c xs r)];exact r
   rcases hc with rfl|hc
   ·exact hbe
   ·rintro rfl
    rcases he with z|z
    ·exact nown c b hc z
    ·rw[hc]at z;cases z;exact hb rfl
end
structure Un (fs ex:List Addr)(H H':Hp)(h h':Heap):Prop where
 keep:∀b o,h.get? b=some o->H b=none->b∉fs->b∉ex->h'.get? b=some o
 slot:∀b o,h.get? b=some o->H b=none->b∈fs->b∉ex->∃sl,h'.get? b=some {o with slots:=sl}
 free:∀b o,h.get? b=some o->H b=none->b∉ex->H' b=none
 there:∀b o,h.get? b=some o->b∉ex->∃o',h'.get? b=some o'
 Oo:∀b xs,H b=some (.tup xs)->H' b=some (.tup xs)
 Mg:∀b o u,H b=some (.frz o u)->H' b=some (.frz o u)
 Oq:∀b ps,H b=some (.tbl ps)->∃more,H' b=some (.tbl (ps++more))
section
variable {fs fs' ex ex':List Addr}{H H1 H2:Hp}{h h1 h2 h':Heap}{a x e:Addr}{o:HO}
theorem Un.any (u:Un fs ex H H1 h h1)(q:h.get? b=some ob)(n:H b=none)(hx:b∉ex):∃sl,h1.get? b=some {ob with slots:=sl}:=by
 by_cases hb:b∈fs
 ·exact u.slot b ob q n hb hx
 ·exact⟨ob.slots,u.keep b ob q n hb hx⟩
theorem Un.kept (k:∀b u,h.get? b=some u->h'.get? b=some u):Un fs ex H H h h':=
 ⟨fun b ob q _ _ _=>k b ob q,fun b ob q _ _ _=>⟨ob.slots,k b ob q⟩,fun _ _ _ n _=>n,fun b ob q _=>⟨ob,k b ob q⟩,fun _ _ q=>q,fun _ _ _ q=>q,fun _ ps q=>⟨#[],by rw[q];simp⟩⟩
theorem Un.refl:Un fs ex H H h h:=Un.kept fun _ _ q=>q
theorem Un.laid (k:∀b u,h.get? b=some u->h'.get? b=some u)(hp:h.objs.size<=a)(hn:H a=none):Un fs ex H (upd H a o) h h' where
 keep:=fun b u q _ _ _=>k b u q
 slot:=fun b u q _ _ _=>⟨u.slots,k b u q⟩
 free:=fun b u q n _=>by rw[AI (Nat.ne_of_lt (Nat.lt_of_lt_of_le (Heap.lt_size q) hp))];exact n
 there:=fun b u q _=>⟨u,k b u q⟩
 Oo:=fun b xs q=>by rw[AI (AM q hn)];exact q
 Mg:=fun b u xs q=>by rw[AI (AM q hn)];exact q
 Oq:=fun b ps q=>⟨#[],by rw[AI (AM q hn),q];simp⟩
theorem Un.write (mu:Mut (H x))(he:e=x\/H e=some (.own x))(k:∀b u,b≠e->h.get? b=some u->h'.get? b=some u)(heo:∃u,h'.get? e=some u):Un fs ex H (upd H x o) h h':=by
 have hx:∀b,H b=none->b≠x:=fun b n z=>by subst z;rw[n]at mu;exact mu
 have hb:∀b,H b=none->b≠e:=fun b n z=>by
  subst z
  rcases he with r|r
  ·exact hx b n r
  ·rw[n]at r;cases r
 have hm:∀b u,H b=some u->¬Mut (some u)->b≠x:=fun b u q nm z=>by subst z;rw[q]at mu;exact nm mu
 refine⟨fun b u q n _ _=>k b u (hb b n) q,fun b u q n _ _=>⟨u.slots,k b u (hb b n) q⟩,fun b u q n _=>by rw[AI (hx b n)];exact n,fun b u q _=>?_,
  fun b xs q=>by rw[AI (hm b _ q fun z=>z)];exact q,fun b u xs q=>by rw[AI (hm b _ q fun z=>z)];exact q,fun b ps q=>⟨#[],by rw[AI (hm b _ q fun z=>z),q];simp⟩⟩
 by_cases hbe:b=e
 ·subst hbe;exact heo
 ·exact⟨u,k b u hbe q⟩
end
def trk (h:Heap)(H:Hp):List Addr:=(List.range h.objs.size).filter fun a=>(H a).isSome
def TU (h:Heap)(H:Hp):Heap:=PySem.W.hideAll h (trk h H)
theorem Y6 (h:Heap)(H:Hp):(TU h H).objs.size=h.objs.size:=PySem.W.hideAll_size _ _
theorem aN (e:h.get? b=some o)(n:H b=none):(TU h H).get? b=some o:=
 PySem.W.hideAll_get _ e fun hm=>by
  have q:(H b).isSome=true:=(List.mem_filter.mp hm).2
  rw[n]at q;simp at q
theorem dB (e:(TU h H).get? b=some o):h.get? b=some o/\H b=none:=by
 have e':h.get? b=some o:=PySem.W.of_hideAll (trk h H) e
 refine⟨e',?_⟩
 cases q:H b with
 |none=>rfl
 |some x=>
  have hm:b∈trk h H:=List.mem_filter.mpr ⟨List.mem_range.mpr (Heap.lt_size e'),by simp[q]⟩
  have z:(TU h H).get? b=none:=PySem.W.hideAll_none (trk h H) hm
  rw[z]at e;cases e
structure Mod (K:PySem.W.Frag)(mg:Str->Option Value)(base:Heap):Prop where
 kin:K.In base
 glob:base.Ns mainGlobals mg
 blt:∃mb,base.Ns builtinsNs mb/\∀x:Str,x≠"__name__"->mb x=bootBuiltins x
 nolimit:base.NoLimit
structure Cx where
 prog:Program
 w:World
 K:PySem.W.Frag
 mg:Str->Option Value
 base:Heap
 A:Around
 N:List Str
 s_0:Shared
 H_0:Hp
 env:Env
 outer:List Env
 stack:List Env
 ex:List Addr
 fn:Str->Bool
 calm:Bool
 pn:List (Addr×Obj)
 xe:Value->Shared->Prop
def frs (l:List Env):List Addr:=l.filterMap (·.frame)
abbrev Cx.fs (X:Cx):List Addr:=frs X.outer
def Vis (sc:Scope)(x:Str):Prop:=sc.names.lookup x=some .local\/sc.names.lookup x=some .cell\/sc.names.lookup x=some .free
def Loc (sc:Scope)(x:Str):Prop:=sc.names.lookup x=some .local\/sc.names.lookup x=some .cell
def Look (env:Env)(h:Heap)(m:Str->Option Value)(x:Str)(u:Value):Prop:=
 (env.kindOf x=some .local/\m x=some u)\/((env.kindOf x=some .cell\/env.kindOf x=some .free)/\∃c,env.cells.lookup x=some c/\h.IsCell c (some u))
structure Cx.Ok (X:Cx):Prop where
 mod:Mod X.K X.mg X.base
 kind:X.env.scope.kind=.function
 glob:X.env.globals=mainGlobals
 blt:X.env.builtins=builtinsNs
 above:X.s_0.heap.objs.size<=X.env.locals
 inj:∀x y c,X.env.cells.lookup x=some c->X.env.cells.lookup y=some c->x=y
 has:∀x,(X.env.kindOf x=some .cell\/X.env.kindOf x=some .free)->∃c,X.env.cells.lookup x=some c
 cab:∀x c,X.fn x=true->X.env.cells.lookup x=some c->X.s_0.heap.objs.size<=c
 hd:X.calm=true->X.A.handled=none
 frames:X.A.frames=some X.stack
 stk:X.stack=X.outer\/(X.stack=X.env::X.outer/\X.env.frame=some X.env.locals)
 exf:∀b∈X.ex,b≠X.env.locals/\∀x c,X.env.cells.lookup x=some c->c≠b
 bs:∀b o,X.base.get? b=some o->X.s_0.heap.get? b=some o/\X.H_0 b=none
 bsz:X.base.objs.size<=X.s_0.heap.objs.size
 S6:∀b o,X.base.get? b=some o->b∉X.ex
 Qm:∀b∈X.ex,b∉X.fs
 JJ:X.s_0.heap.FunFrames X.base X.outer
 frf:∀b∈X.fs,X.H_0 b=none
structure Inv (X:Cx)(pins:List (Addr×Obj))(σ:List (Option V))(H:Hp)(s:Shared):Prop where
 ok:X.Ok
 os:s.os=X.s_0.os
 bare:AllBare s.gens
 base:Un X.fs X.ex X.H_0 H X.s_0.heap s.heap
 loc:∃m,s.heap.Ns X.env.locals m/\∀(i:Nat) (x:Str) (v:V),X.N[i]? =some x->σ[i]? =some (some v)->Vis X.env.scope x->∃u,RelV v u/\Look X.env s.heap m x u
 cell:∀x c,X.env.cells.lookup x=some c->∃v,s.heap.IsCell c v
 free:H X.env.locals=none
 Di:∀x c,X.env.cells.lookup x=some c->H c=none
 pin:∀p∈X.pn++pins,s.heap.get? p.1=some p.2/\H p.1=none/\p.1≠X.env.locals/\p.1∉X.fs/\∀v,p.2.data≠.cell v
 hok:HOk X.prog X.w H s.heap
 len:σ.length=X.N.length
section
variable {X:Cx}{pins:List (Addr×Obj)}{σ:List (Option V)}{H H':Hp}{s:Shared}{h':Heap}
theorem Cx.Ok.mY (ok:X.Ok)(e:X.base.get? b=some o):b∉X.fs:=fun hb=>by
 have:=(ok.JJ.mem hb).1
 rw[e]at this;cases this
theorem Inv.bs (I:Inv X pins σ H s):∀b o,X.base.get? b=some o->s.heap.get? b=some o/\H b=none:=fun b o e=>
 ⟨I.base.keep b o (I.ok.bs b o e).1 (I.ok.bs b o e).2 (I.ok.mY e) (I.ok.S6 b o e),I.base.free b o (I.ok.bs b o e).1 (I.ok.bs b o e).2 (I.ok.S6 b o e)⟩
theorem Inv.bk (I:Inv X pins σ H s):∀b o,X.base.get? b=some o->s.heap.get? b=some o:=fun b o e=>(I.bs b o e).1
theorem Inv.mod (I:Inv X pins σ H s):Mod X.K X.mg X.base:=I.ok.mod
theorem Inv.kIn (I:Inv X pins σ H s):X.K.In s.heap:=I.ok.mod.kin.keeps I.bk
theorem Inv.fr (I:Inv X pins σ H s):∃m,Fr X.base X.env.locals s.heap m:=
 let⟨m,hn,_⟩:=I.loc
 ⟨m,hn,I.bk,Nat.le_trans I.ok.bsz I.ok.above⟩
theorem Inv.lt (I:Inv X pins σ H s):X.env.locals<s.heap.objs.size:=let⟨_,hn,_⟩:=I.loc;hn.lt
theorem Inv.sz (I:Inv X pins σ H s):X.s_0.heap.objs.size<=s.heap.objs.size:=Nat.le_trans I.ok.above (Nat.le_of_lt I.lt)
theorem Inv.mZ (I:Inv X pins σ H s)(h:s.heap.objs.size<=a):a∉X.fs:=fun hb=>by
 obtain⟨_,o,ho,_⟩:=I.ok.JJ.mem hb
 exact absurd (Nat.lt_of_lt_of_le (Heap.lt_size ho) (Nat.le_trans I.sz h)) (Nat.lt_irrefl _)
theorem Inv.cne (I:Inv X pins σ H s):∀x c,X.env.cells.lookup x=some c->c≠X.env.locals:=fun x c e z=>by
 obtain⟨v,o,ho,hd⟩:=I.cell x c e
 obtain⟨m,⟨o',es,ep,ho',hd',_⟩,_⟩:=I.loc
 rw[z,ho']at ho;cases ho;rw[hd']at hd;cases hd
theorem Inv.JJ (I:Inv X pins σ H s):s.heap.FunFrames X.base X.outer:=by
 have all:∀(l:List Env),(∀b∈frs l,b∈X.fs)->X.s_0.heap.FunFrames X.base l->s.heap.FunFrames X.base l:=by
  intro l
  induction l with
  |nil=>intro _ _;trivial
  |cons env r ih=>
   intro hs hl
   obtain⟨hk,⟨L,o,hf,hn,ho,hd⟩,hr⟩:=hl
   have hL:L∈X.fs:=hs L (by unfold frs;rw[List.filterMap_cons,hf];exact List.mem_cons_self)
   obtain⟨sl,e⟩:=I.base.slot L o ho (I.ok.frf L hL) hL fun z=>I.ok.Qm L z hL
   exact⟨hk,⟨L,_,hf,hn,e,hd⟩,ih (fun b hb=>hs b (by unfold frs;rw[List.filterMap_cons,hf];exact List.mem_cons_of_mem _ hb)) hr⟩
 exact all X.outer (fun _ hb=>hb) I.ok.JJ
theorem Inv.stack (I:Inv X pins σ H s):s.heap.FunFrames X.base X.stack:=by
 rcases I.ok.stk with e|⟨e,hf⟩
 ·rw[e];exact I.JJ
 ·rw[e]
  obtain⟨m,hn,_⟩:=I.loc
  refine .cons (by rw[I.ok.kind];decide) hf hn ?_ I.JJ
  exact Heap.get?_none_of_le (Nat.le_trans I.ok.bsz I.ok.above)
theorem Inv.Ot (I:Inv X pins σ H s):∀b∈frs X.stack,b∈X.env.locals::X.fs:=fun b hb=>by
 rcases I.ok.stk with e|⟨e,hf⟩
 ·rw[e]at hb;exact List.mem_cons_of_mem _ hb
 ·rw[e]at hb
  unfold frs at hb
  rw[List.filterMap_cons,hf]at hb
  exact hb
theorem Inv.TV (I:Inv X pins σ H s):∀b∈frs X.stack,H b=none:=fun b hb=>by
 rcases List.mem_cons.mp (I.Ot b hb)with e|hb
 ·rw[e];exact I.free
 ·obtain⟨_,o,ho,_⟩:=I.ok.JJ.mem hb
  exact I.base.free b o ho (I.ok.frf b hb) fun z=>I.ok.Qm b z hb
theorem Inv.step {g':Array GenState}{t':Nat}{d':Drawn}{ch:List Addr}(I:Inv X pins σ H s)
  (hch:∀b∈ch,(b∈X.ex\/X.s_0.heap.objs.size<=b)/\b≠X.env.locals/\(∀x c,X.env.cells.lookup x=some c->c≠b)/\∀p∈X.pn++pins,p.1≠b)
  (keep:∀b o,b≠X.env.locals->b∉X.fs->b∉ch->s.heap.get? b=some o->H b=none->h'.get? b=some o)
  (slot:∀b o,b≠X.env.locals->b∈X.fs->b∉ch->s.heap.get? b=some o->H b=none->∃sl,h'.get? b=some {o with slots:=sl})(free:∀b o,b∉ch->s.heap.get? b=some o->H b=none->H' b=none)
  (there:∀b o,b∉ch->s.heap.get? b=some o->∃o',h'.get? b=some o')
  (Oo:∀b xs,H b=some (.tup xs)->H' b=some (.tup xs))(Mg:∀b o u,H b=some (.frz o u)->H' b=some (.frz o u))(Oq:∀b ps,H b=some (.tbl ps)->∃more,H' b=some (.tbl (ps++more)))
  (ns:∀m,s.heap.Ns X.env.locals m->h'.Ns X.env.locals m)(hok:HOk X.prog X.w H' h')(hg:AllBare g'):
  Inv X pins σ H' {s with heap:=h',gens:=g',drawn:=d',toks:=t'}:=by
 have neL:∀b o,X.s_0.heap.get? b=some o->b≠X.env.locals:=fun b o e=>Nat.ne_of_lt (Nat.lt_of_lt_of_le (Heap.lt_size e) I.ok.above)
 have neC:∀b o,X.s_0.heap.get? b=some o->b∉X.ex->b∉ch:=fun b o e hx hb=>by
  rcases(hch b hb).1 with z|z
  ·exact hx z
  ·exact absurd (Nat.lt_of_lt_of_le (Heap.lt_size e) z) (Nat.lt_irrefl _)
 have cellK:∀x c,X.env.cells.lookup x=some c->∀v,s.heap.IsCell c v->h'.IsCell c v:=fun x c e v ⟨o,ho,hd⟩=>by
  have nch:c∉ch:=fun z=>(hch c z).2.2.1 x c e rfl
  by_cases hc:c∈X.fs
  ·obtain⟨sl,q⟩:=slot c o (I.cne x c e) hc nch ho (I.Di x c e)
   exact⟨_,q,hd⟩
  ·exact⟨o,keep c o (I.cne x c e) hc nch ho (I.Di x c e),hd⟩
 refine⟨I.ok,I.os,hg,⟨fun b o e n hb hx=>?_,fun b o e n hb hx=>?_,fun b o e n hx=>?_,fun b o e hx=>?_,fun b xs e=>Oo b xs (I.base.Oo b xs e),fun b o xs e=>Mg b o xs (I.base.Mg b o xs e),fun b ps e=>?_⟩,?_,fun x c e=>?_,?_,fun x c e=>?_,fun p hp=>?_,hok,I.len⟩
 ·exact keep b o (neL b o e) hb (neC b o e hx) (I.base.keep b o e n hb hx) (I.base.free b o e n hx)
 ·obtain⟨sl,e1⟩:=I.base.slot b o e n hb hx
  obtain⟨sl',e2⟩:=slot b _ (neL b o e) hb (neC b o e hx) e1 (I.base.free b o e n hx)
  exact⟨sl',e2⟩
 ·obtain⟨o',e1⟩:=I.base.there b o e hx
  exact free b o' (neC b o e hx) e1 (I.base.free b o e n hx)
 ·obtain⟨o',e1⟩:=I.base.there b o e hx
  exact there b o' (neC b o e hx) e1
 ·obtain⟨m1,e1⟩:=I.base.Oq b ps e
  obtain⟨m2,e2⟩:=Oq b _ e1
  exact⟨m1++m2,by rw[e2,Array.append_assoc]⟩
 ·obtain⟨m,hn,hl⟩:=I.loc
  refine⟨m,ns m hn,fun i x v e1 e2 e3=>?_⟩
  obtain⟨u,r,l⟩:=hl i x v e1 e2 e3
  refine⟨u,r,?_⟩
  rcases l with l|⟨k,c,e,z⟩
  ·exact .inl l
  ·exact .inr ⟨k,c,e,cellK x c e _ z⟩
 ·obtain⟨v,z⟩:=I.cell x c e
  exact⟨v,cellK x c e v z⟩
 ·obtain⟨m,⟨o,_,_,ho,_⟩,_⟩:=I.loc
  exact free _ o (fun z=>(hch _ z).2.1 rfl) ho I.free
 ·obtain⟨v,o,ho,hd⟩:=I.cell x c e
  exact free c o (fun z=>(hch c z).2.2.1 x c e rfl) ho (I.Di x c e)
 ·obtain⟨e,n,ne,nf,d⟩:=I.pin p hp
  have nch:p.1∉ch:=fun z=>(hch p.1 z).2.2.2 p hp rfl
  exact⟨keep p.1 p.2 ne nf nch e n,free p.1 p.2 nch e n,ne,nf,d⟩
theorem Inv.un {t':Nat}(I:Inv X pins σ H s)(u:Un X.fs [] H H' s.heap h')(hok:HOk X.prog X.w H' h'):Inv X pins σ H' {s with heap:=h',toks:=t'}:=by
 obtain⟨m,⟨o,es,ep,ho,r⟩,_⟩:=id I.loc
 obtain⟨sl,hL⟩:=u.any ho I.free (by simp)
 exact I.step (g':=s.gens) (d':=s.drawn) (ch:=[]) (fun _ z=>nomatch z) (fun b o _ hb _ e n=>u.keep b o e n hb (by simp)) (fun b o _ hb _ e n=>u.slot b o e n hb (by simp)) (fun b o _ e n=>u.free b o e n (by simp)) (fun b o _ e=>u.there b o e (by simp)) u.Oo u.Mg u.Oq (fun m' hm=>by
  obtain⟨o',es',ep',ho',r'⟩:=hm
  rw[ho]at ho';cases ho'
  exact⟨_,es',ep',hL,r'⟩) hok I.bare
theorem Inv.call {g':Array GenState}{t':Nat}{d':Drawn}{ch:List Addr}(I:Inv X pins σ H s)(u:Un (frs X.stack) ch H H' s.heap h')(hok:HOk X.prog X.w H' h')(hg:AllBare g')
  (hch:∀b∈ch,(b∈X.ex\/X.s_0.heap.objs.size<=b)/\b≠X.env.locals/\(∀x c,X.env.cells.lookup x=some c->c≠b)/\∀p∈X.pn++pins,p.1≠b):
  Inv X pins σ H' {s with heap:=h',gens:=g',drawn:=d',toks:=t'}:=by
 obtain⟨m,⟨o,es,ep,ho,r⟩,_⟩:=id I.loc
 obtain⟨sl,hL⟩:=u.any ho I.free fun z=>(hch _ z).2.1 rfl
 exact I.step (ch:=ch) hch (fun b o hL hb hc e n=>u.keep b o e n (fun z=>(List.mem_cons.mp (I.Ot b z)).elim hL hb) hc) (fun b o _ _ hc e n=>u.any e n hc) (fun b o hc e n=>u.free b o e n hc) (fun b o hc e=>u.there b o e hc) u.Oo u.Mg u.Oq (fun m' hm=>by
  obtain⟨o',es',ep',ho',r'⟩:=hm
  rw[ho]at ho';cases ho'
  exact⟨_,es',ep',hL,r'⟩) hok hg
theorem Inv.turned {t':Nat}{it:Addr}(I:Inv X pins σ H s)(k:∀b o,b≠it->s.heap.get? b=some o->h'.get? b=some o)(hn:H it=none)(hL:it≠X.env.locals)
  (h1:it∈X.ex\/X.s_0.heap.objs.size<=it)(h2:∀x c,X.env.cells.lookup x=some c->c≠it)(h3:∀p∈X.pn++pins,p.1≠it):Inv X pins σ H {s with heap:=h',toks:=t'}:=by
 have nit:∀b u,H b=some u->b≠it:=fun b u e z=>by rw[z,hn]at e;cases e
 refine I.step (g':=s.gens) (d':=s.drawn) (ch:=[it]) (fun b hb=>?_) (fun b o _ _ hc e _=>k b o (fun z=>hc (by simp[z])) e) (fun b o _ _ hc e _=>⟨o.slots,k b o (fun z=>hc (by simp[z])) e⟩) (fun _ _ _ _ n=>n)
  (fun b o hc e=>⟨o,k b o (fun z=>hc (by simp[z])) e⟩) (fun _ _ e=>e) (fun _ _ _ e=>e) (fun b ps e=>⟨#[],by rw[e];simp⟩) (fun m hm=>?_) (fun b u e=>?_) I.bare
 ·have e:b=it:=by simpa using hb
  subst e
  exact⟨h1,hL,h2,h3⟩
 ·obtain⟨o,es,ep,ho,r⟩:=hm
  exact⟨o,es,ep,k _ o (Ne.symm hL) ho,r⟩
 ·refine(I.hok b u e).Io (fun c v hc q=>k c v ?_ q) (fun _ q=>q) fun _ _ q=>q
  rcases hc with z|z
  ·rw[z];exact nit b u e
  ·exact nit c _ z
theorem Inv.tok (I:Inv X pins σ H s)(t:Nat):Inv X pins σ H {s with toks:=t}:=I.un (h':=s.heap) (t':=t) Un.refl I.hok
theorem Inv.kept (I:Inv X pins σ H s)(k:∀b u,s.heap.get? b=some u->h'.get? b=some u):Inv X pins σ H {s with heap:=h',toks:=t'}:=I.un (Un.kept k) (I.hok.kept k)
theorem Inv.laid (I:Inv X pins σ H s)(k:∀b u,s.heap.get? b=some u->h'.get? b=some u)(hp:s.heap.objs.size<=a)(new:Bk X.prog X.w (upd H a o) h' a o):
  Inv X pins σ (upd H a o) {s with heap:=h',toks:=t'}:=I.un (Un.laid k hp (I.hok.fresh hp)) (I.hok.laid k hp new)
theorem Inv.write (I:Inv X pins σ H s)(mu:Mut (H x))(he:e=x\/H e=some (.own x))(k:∀b u,b≠e->s.heap.get? b=some u->h'.get? b=some u)(heo:∃u,h'.get? e=some u)
  (new:Bk X.prog X.w (upd H x o) h' x o):Inv X pins σ (upd H x o) {s with heap:=h',toks:=t'}:=I.un (Un.write mu he k heo) (I.hok.write mu he k heo new)
theorem Inv.weak (I:Inv X pins σ H s)(hl:σ'.length=σ.length)(w:∀(i:Nat) v,σ'[i]? =some (some v)->σ[i]? =some (some v)):Inv X pins σ' H s:=
 ⟨I.ok,I.os,I.bare,I.base,let⟨m,hn,hl'⟩:=I.loc;⟨m,hn,fun i x v e1 e2 e3=>hl' i x v e1 (w i v e2) e3⟩,I.cell,I.free,I.Di,I.pin,I.hok,hl.trans I.len⟩
theorem Inv.YC (I:Inv X pins σ H s)(h:∀p∈pins',s.heap.get? p.1=some p.2/\H p.1=none/\p.1≠X.env.locals/\p.1∉X.fs/\∀v,p.2.data≠.cell v):Inv X pins' σ H s:=
 ⟨I.ok,I.os,I.bare,I.base,I.loc,I.cell,I.free,I.Di,fun p hp=>(List.mem_append.mp hp).elim (fun z=>I.pin p (List.mem_append_left _ z)) (h p),I.hok,I.len⟩
theorem O1 {N:List Str}(hN:N.Nodup){i j:Nat}{x:Str}(a:N[i]? =some x)(b:N[j]? =some x):i=j:=by
 obtain⟨h1,e1⟩:=List.getElem?_eq_some_iff.mp a
 obtain⟨h2,e2⟩:=List.getElem?_eq_some_iff.mp b
 exact(List.getElem_inj hN).mp (e1.trans e2.symm)
theorem Mn {M:Model}{A:Around}{E:Value->Shared->Prop}{i:Nat}{x:Str}{v:V}{u:Value}{Q:Unit->Shared->Prop}(I:Inv X pins σ H s)(hN:X.N.Nodup)(hi:X.N[i]? =some x)(hx:Loc X.env.scope x)(r:RelV v u)
  (h:∀s',Inv X pins (σ.set i (some v)) H s'->(∃a,Heap.SameBut a s.heap s'.heap/\(a=X.env.locals\/X.env.cells.lookup x=some a))->Q () s')(hf:X.fn x=true\/X.env.scope.names.lookup x=some .local:=by first|exact .inl rfl|exact .inr rfl|assumption):wpAny M A (storeName X.env x u) Q E s:=by
 obtain⟨m,hn,hl⟩:=id I.loc
 have hcls:(X.env.scope.kind == .class||(X.env.scope.kind == .module&&X.env.locals != X.env.globals))=false:=by rw[I.ok.kind];rfl
 have hiσ:i<σ.length:=by rw[I.len];exact(List.getElem?_eq_some_iff.mp hi).1
 have cne:=I.cne
 have tracked:∀{a:Addr}{h':Heap},(∃o,s.heap.get? a=some o/\H a=none)->Heap.SameBut a s.heap h'->HOk X.prog X.w H h':=fun{a h'} ha hs b ob e=>by
  obtain⟨_,_,hfree⟩:=ha
  refine(I.hok b ob e).Io (fun c w' hc q=>(hs.2 c ?_).trans q) (fun _ q=>q) fun _ _ q=>q
  rintro rfl
  rcases hc with rfl|hc
  ·rw[hfree]at e;cases e
  ·rw[hfree]at hc;cases hc
 rcases hx with hk|hk
 ·refine wpAny_storeName_local hk hn (fun h' hn' hs=>?_) hcls
  obtain⟨oL,_,_,hoL,_⟩:=id hn
  refine h _ ⟨I.ok,I.os,I.bare,⟨fun b o e n hb hx=>?_,fun b o e n hb hx=>?_,I.base.free,fun b o e hx=>?_,I.base.Oo,I.base.Mg,I.base.Oq⟩,⟨_,hn',fun j y v' e1 e2 e3=>?_⟩,fun y c e=>?_,I.free,I.Di,fun p hp=>?_,tracked ⟨oL,hoL,I.free⟩ hs,by simpa using I.len⟩ ⟨_,hs,.inl rfl⟩
  ·exact(hs.2 b (Nat.ne_of_lt (Nat.lt_of_lt_of_le (Heap.lt_size e) I.ok.above))).trans (I.base.keep b o e n hb hx)
  ·obtain⟨sl,e1⟩:=I.base.slot b o e n hb hx
   exact⟨sl,(hs.2 b (Nat.ne_of_lt (Nat.lt_of_lt_of_le (Heap.lt_size e) I.ok.above))).trans e1⟩
  ·obtain⟨o',e1⟩:=I.base.there b o e hx
   exact⟨o',(hs.2 b (Nat.ne_of_lt (Nat.lt_of_lt_of_le (Heap.lt_size e) I.ok.above))).trans e1⟩
  ·by_cases hj:j=i
   ·subst hj
    rw[hi]at e1;cases e1
    rw[List.getElem?_set_self hiσ]at e2
    cases e2
    exact⟨u,r,.inl ⟨hk,by simp⟩⟩
   ·rw[List.getElem?_set_ne (Ne.symm hj)]at e2
    obtain⟨u',r',q⟩:=hl j y v' e1 e2 e3
    refine⟨u',r',?_⟩
    rcases q with⟨k,e⟩|⟨k,c,e,z⟩
    ·refine .inl ⟨k,?_⟩
     have:y≠x:=fun e=>hj (O1 hN e1 (e▸hi))
     simp[this,e]
    ·exact .inr ⟨k,c,e,z.sameBut hs (cne y c e)⟩
  ·obtain⟨w',z⟩:=I.cell y c e
   exact⟨w',z.sameBut hs (cne y c e)⟩
  ·obtain⟨e,n,ne,nf,d⟩:=I.pin p hp
   exact⟨(hs.2 p.1 ne).trans e,n,ne,nf,d⟩
 ·have hfn:X.fn x=true:=by
   rcases hf with z|z
   ·exact z
   ·rw[z]at hk;cases hk
  obtain⟨c,hc⟩:=I.ok.has x (.inl hk)
  obtain⟨w',z⟩:=I.cell x c hc
  refine wpAny_storeName_cell I.ok.kind hk hc z (fun h' hc' hs=>?_)
  obtain⟨oc,hoc,hocd⟩:=id z
  refine h {s with heap:=h'} ⟨I.ok,I.os,I.bare,⟨fun b o e n hb hx=>?_,fun b o e n hb hx=>?_,I.base.free,fun b o e hx=>?_,I.base.Oo,I.base.Mg,I.base.Oq⟩,⟨m,hn.sameBut hs (Ne.symm (cne x c hc)),fun j y v' e1 e2 e3=>?_⟩,fun y c' e=>?_,I.free,I.Di,fun p hp=>?_,tracked ⟨oc,hoc,I.Di x c hc⟩ hs,by simpa using I.len⟩ ⟨c,hs,.inr hc⟩
  ·exact(hs.2 b (Nat.ne_of_lt (Nat.lt_of_lt_of_le (Heap.lt_size e) (I.ok.cab x c hfn hc)))).trans (I.base.keep b o e n hb hx)
  ·obtain⟨sl,e1⟩:=I.base.slot b o e n hb hx
   exact⟨sl,(hs.2 b (Nat.ne_of_lt (Nat.lt_of_lt_of_le (Heap.lt_size e) (I.ok.cab x c hfn hc)))).trans e1⟩
  ·obtain⟨o',e1⟩:=I.base.there b o e hx
   exact⟨o',(hs.2 b (Nat.ne_of_lt (Nat.lt_of_lt_of_le (Heap.lt_size e) (I.ok.cab x c hfn hc)))).trans e1⟩
  ·by_cases hj:j=i
   ·subst hj
    rw[hi]at e1;cases e1
    rw[List.getElem?_set_self hiσ]at e2
    cases e2
    exact⟨u,r,.inr ⟨.inl hk,c,hc,hc'⟩⟩
   ·rw[List.getElem?_set_ne (Ne.symm hj)]at e2
    obtain⟨u',r',q⟩:=hl j y v' e1 e2 e3
    refine⟨u',r',?_⟩
    rcases q with q|⟨k,c',e,z'⟩
    ·exact .inl q
    ·refine .inr ⟨k,c',e,z'.sameBut hs ?_⟩
     rintro rfl
     exact hj (O1 hN e1 (I.ok.inj _ _ _ e hc▸hi))
  ·by_cases hcc:c'=c
   ·subst hcc;exact⟨_,hc'⟩
   ·obtain⟨w2,z2⟩:=I.cell y c' e
    exact⟨w2,z2.sameBut hs hcc⟩
  ·obtain⟨e,n,ne,nf,d⟩:=I.pin p hp
   refine⟨(hs.2 p.1 ?_).trans e,n,ne,nf,d⟩
   intro q
   rw[q,hoc]at e
   have q':oc=p.2:=Option.some.inj e
   exact d w' (by rw[<-q'];exact hocd)
theorem O2 (I:Inv X pins σ H s)(hN:X.N.Nodup)(hi:X.N[i]? =some x)(hx:Loc X.env.scope x)(r:RelV v u)
  (h:∀s',Inv X pins (σ.set i (some v)) H s'->Q () s')(hf:X.fn x=true\/X.env.scope.names.lookup x=some .local:=by first|exact .inl rfl|exact .inr rfl|assumption):wpAny M A (storeName X.env x u) Q E s:=
 Mn I hN hi hx r (fun s' I' _=>h s' I') hf
theorem Inv.VA (I:Inv X pins σ H s)(ho:s'.os=s.os)(u:Un (frs X.stack) ch H H' s.heap s'.heap)(hok:HOk X.prog X.w H' s'.heap)(hg:AllBare s'.gens)
  (hch:∀b∈ch,(b∈X.ex\/X.s_0.heap.objs.size<=b)/\b≠X.env.locals/\(∀x c,X.env.cells.lookup x=some c->c≠b)/\∀p∈X.pn++pins,p.1≠b):Inv X pins σ H' s':=by
 obtain⟨h',g',d',t',o'⟩:=s'
 have e:o'=s.os:=ho
 subst e
 exact I.call (g':=g') (t':=t') (d':=d') u hok hg hch
end
abbrev XK:=Value->Option Addr->Hp->Prop
abbrev St:=List (Option V)
abbrev VK:=V->Hp->Prop
abbrev TE:=St->Hp->VK->Prop
abbrev TT:=St->Hp->(Bool->Hp->Prop)->Prop
abbrev TA:=St->Hp->(List V->Hp->Prop)->Prop
structure Ends where
 nx:St->Hp->Prop
 rt:VK
 bk:St->Hp->Prop:=fun _ _=>False
 ct:St->Hp->Prop:=fun _ _=>False
abbrev TS:=Ends->St->Hp->Prop
def EP (X:Cx)(pins:List (Addr×Obj))(σ:St)(Q:VK)(u:Value)(s':Shared):Prop:=∃v H',Inv X pins σ H' s'/\RelV v u/\Q v H'
def TP (X:Cx)(pins:List (Addr×Obj))(σ:St)(Q:Bool->Hp->Prop)(b:Bool)(s':Shared):Prop:=∃H',Inv X pins σ H' s'/\Q b H'
def AP (X:Cx)(pins:List (Addr×Obj))(σ:St)(Q:List V->Hp->Prop)(us:List Value)(s':Shared):Prop:=∃vs H',Inv X pins σ H' s'/\Vals vs us/\Q vs H'
def SP (X:Cx)(pins:List (Addr×Obj))(D:Ends)(f:Flow)(s':Shared):Prop:=
 match f with
 | .next=>∃σ' H',Inv X pins σ' H' s'/\D.nx σ' H'
 | .brk=>∃σ' H',Inv X pins σ' H' s'/\D.bk σ' H'
 | .cont=>∃σ' H',Inv X pins σ' H' s'/\D.ct σ' H'
 | .ret u=>∃v σ' H',Inv X pins σ' H' s'/\RelV v u/\D.rt v H'
def PE (X:Cx)(e:Expr)(t:TE):Prop:=
 ∀(pins:List (Addr×Obj)) (s:Shared) (σ:St) (H:Hp) (Q:VK),Inv X pins σ H s->t σ H Q->wpAny (model X.prog X.w) X.A (eval e X.env) (EP X pins σ Q) X.xe s
def PT (X:Cx)(e:Expr)(t:TT):Prop:=
 ∀(pins:List (Addr×Obj)) (s:Shared) (σ:St) (H:Hp) (Q:Bool->Hp->Prop),Inv X pins σ H s->t σ H Q->wpAny (model X.prog X.w) X.A (isTrue e X.env (eval e X.env)) (TP X pins σ Q) X.xe s
def PW (X:Cx)(e:Expr)(t:TT):Prop:=
 ∀(whole:Sem Value) (pins:List (Addr×Obj)) (s:Shared) (σ:St) (H:Hp) (Q:Bool->Hp->Prop),Inv X pins σ H s->t σ H Q->wpAny (model X.prog X.w) X.A (isTrue e X.env whole) (TP X pins σ Q) X.xe s
theorem PW.pt (h:PW X e t):PT X e t:=h _
def PA (X:Cx)(es:List Expr)(t:TA):Prop:=
 ∀(pos:Pos) (pins:List (Addr×Obj)) (s:Shared) (σ:St) (H:Hp) (Q:List V->Hp->Prop),Inv X pins σ H s->t σ H Q->wpAny (model X.prog X.w) X.A (spliced (backTo pos (starEach es X.env))) (AP X pins σ Q) X.xe s
def PS (X:Cx)(st:Stmt)(t:TS):Prop:=
 ∀(pins:List (Addr×Obj)) (s:Shared) (σ:St) (H:Hp) (D:Ends),Inv X pins σ H s->t D σ H->wpAny (model X.prog X.w) X.A (exec st X.env) (SP X pins D) X.xe s
def PSs (X:Cx)(st:List Stmt)(t:TS):Prop:=
 ∀(pins:List (Addr×Obj)) (s:Shared) (σ:St) (H:Hp) (D:Ends),Inv X pins σ H s->t D σ H->wpAny (model X.prog X.w) X.A (execs st X.env) (SP X pins D) X.xe s
theorem thn (h:wpAny M A t Q E s)(hQ:∀a s,Q a s->Q' a s):wpAny M A t Q' E s:=wpAny_mono h hQ fun _ _ x=>x
section
variable {X:Cx}
theorem bin {a b:Expr}{ta tb:TE}(ha:PE X a ta)(hb:PE X b tb){pins:List (Addr×Obj)}{s:Shared}{σ:St}{H:Hp}{R:V->V->Hp->Prop}(I:Inv X pins σ H s)(h:ta σ H fun x H1=>tb σ H1 fun y H2=>R x y H2)
  {α:Type}{Q:α->Shared->Prop}{f:Value->Value->Sem α}
  (hf:∀v u s2 x y H2,Inv X pins σ H2 s2->RelV x v->RelV y u->R x y H2->wpAny (model X.prog X.w) X.A (f v u) Q X.xe s2):
  wpAny (model X.prog X.w) X.A (eval a X.env) (fun v s₁=>wpAny (model X.prog X.w) X.A (eval b X.env) (fun u s₂=>wpAny (model X.prog X.w) X.A (f v u) Q X.xe s₂) X.xe s₁) X.xe s:=by
 refine thn (ha pins s σ H _ I h) fun v s1 ⟨x,H1,I1,r1,q1⟩=>?_
 refine thn (hb pins s1 σ H1 _ I1 q1) fun u s2 ⟨y,H2,I2,r2,q2⟩=>?_
 exact hf v u s2 x y H2 I2 r1 r2 q2
inductive j3 (σ:St)(i:Nat)(H:Hp)(Q:VK):Prop
 |mk (v:V) (h:σ[i]? =some (some v)) (q:Q v H):j3 σ i H Q
def Ae (i:Nat):TE:=fun σ H Q=>j3 σ i H Q
def tC (v:V):TE:=fun _ H Q=>Q v H
theorem iY (hN:X.N[i]? =some x)(hv:Vis X.env.scope x)(hd:(x == ("__debug__":Str))=false:=by decide)(hcd:(x == ("__classdict__":Str))=false:=by decide):PE X (.Name x pos) (Ae i):=by
 intro pins s σ H Q I h
 obtain⟨v,e,h⟩:=h
 obtain⟨m,hn,hl⟩:=I.loc
 obtain⟨u,r,l⟩:=hl i x v hN e hv
 have fin:EP X pins σ Q u s:=⟨v,H,I,r,h⟩
 rcases l with⟨hk,hm⟩|⟨hk,c,hc,hcell⟩
 ·exact wpAny_Name (wpAny_loadName_local I.ok.kind hk hn hm fin) hd
 ·rcases hk with hk|hk
  ·exact wpAny_Name (wpAny_loadName_cell I.ok.kind hk hc hcell fin) hd
  ·exact wpAny_Name (wpAny_loadName_free I.ok.kind hk hc hcell fin hcd) hd
theorem AH {i j pos}:PE X (.Constant (.int i) j pos) (tC (.int i)):=fun _ _ _ H _ I h=>wpAny_Constant_int ⟨.int i,H,I.tok _,⟨_,rfl⟩,h⟩
theorem R0 {b j pos}:PE X (.Constant (.bool b) j pos) (tC (.bl b)):=fun _ _ _ H _ I h=>Constant_bool ⟨.bl b,H,I,rfl,h⟩
theorem iZ {j pos}:PE X (.Constant .none j pos) (tC .non):=fun _ _ _ H _ I h=>Constant_none ⟨.non,H,I,rfl,h⟩
theorem W0 {x j pos}:PE X (.Constant (.str x) j pos) (tC (.str x)):=fun _ _ _ H _ I h=>Calls.Constant_str ⟨.str x,H,I.tok _,⟨_,rfl⟩,h⟩
def Gl (X:Cx)(x:Str):Prop:=X.env.kindOf x=some .globalImplicit
theorem GH (I:Inv X pins σ H s)(hg:Gl X x)(hm:X.mg x=some u)(h:Q u s)
  (hd:(x == ("__debug__":Str))=false:=by decide):wpAny (model X.prog X.w) X.A (eval (.Name x pos) X.env) Q E s:=
 Calls.Name_function_global I.ok.kind hg (Calls.loadGlobal_global (by rw[I.ok.glob];exact I.mod.glob.keeps I.bk) hm h) hd
theorem JQ (I:Inv X pins σ H s)(hg:Gl X x)(hm:X.mg x=none)(hv:bootBuiltins x=some u)(h:Q u s)
  (hn:x≠"__name__":=by decide)(hd:(x == ("__debug__":Str))=false:=by decide):wpAny (model X.prog X.w) X.A (eval (.Name x pos) X.env) Q E s:=by
 obtain⟨mb,h1,h2⟩:=I.mod.blt
 exact Calls.Name_function_global I.ok.kind hg (Calls.loadGlobal_builtin (by rw[I.ok.glob];exact I.mod.glob.keeps I.bk) hm (by rw[I.ok.blt];exact h1.keeps I.bk) ((h2 x hn).trans hv) h) hd
theorem A6 (hg:Gl X x)(hm:X.mg x=some u)(r:RelV v u)(hd:(x == ("__debug__":Str))=false:=by decide):PE X (.Name x pos) (tC v):=
 fun _ _ _ H _ I h=>GH I hg hm ⟨v,H,I,r,h⟩ hd
variable {a b:Expr}{ta tb:TE}{pos:Pos}
def PC (X:Cx)(op:CmpOp)(a b:Expr)(t:TE):Prop:=
 ∀(pins:List (Addr×Obj)) (s:Shared) (σ:St) (H:Hp) (Q:VK),Inv X pins σ H s->t σ H Q->
  wpAny (model X.prog X.w) X.A (eval a X.env) (fun v s₁=>wpAny (model X.prog X.w) X.A (eval b X.env) (fun u s₂=>wpAny (model X.prog X.w) X.A (compareOp op v u) (EP X pins σ Q) X.xe s₂) X.xe s₁) X.xe s
theorem aO (b:Expr)(h:op≠.In)(h2:op≠.NotIn):behindInMarks op b=false:=by
 have e1:(op == CmpOp.In)=false:=by cases op <;> first|rfl|exact absurd rfl h
 have e2:(op == CmpOp.NotIn)=false:=by cases op <;> first|rfl|exact absurd rfl h2
 cases b <;> simp[behindInMarks,e1,e2]
def ma (ta:TE):TE:=fun σ H Q=>ta σ H fun x H1=>Q (.bl (decide (x=.non))) H1
theorem RelV.aP (r:RelV x v):(v == Value.none)=decide (x=.non):=by
 cases x with
 |non=>cases r;rfl
 |bl _=>cases r;rfl
 |int _=>obtain⟨t,rfl⟩:=r;rfl
 |str _=>obtain⟨t,rfl⟩:=r;rfl
 |byt _=>obtain⟨t,rfl⟩:=r;rfl
 |flt _=>obtain⟨t,rfl⟩:=r;rfl
 |ref _=>cases r;rfl
 |ty _=>cases r;rfl
theorem ia {j pos'}(ha:PE X a ta):PC X .Is a (.Constant .none j pos') (ma ta):=by
 intro pins s σ H Q I h
 refine thn (ha pins s σ H _ I h) fun v s1 ⟨x,H1,I1,r1,q1⟩=>?_
 exact Constant_none (is_none_gen ⟨.bl _,H1,I1,by rw[r1.aP];rfl,q1⟩)
inductive BlI (x:V)(H:Hp)(Q:Bool->Hp->Prop):Prop
 |mk (c:Bool) (e:x=.bl c) (q:Q c H):BlI x H Q
def tB (t:TE):TT:=fun σ H Q=>t σ H fun x H1=>BlI x H1 Q
theorem aQ (h:PC X op a b t)(h1:behindInMarks op b=false:=by first|exact aO _ (by decide) (by decide)|rfl):PT X (.Compare a [op] [b] pos) (tB t):=by
 intro pins s σ H Q I hw
 refine wpAny_isTrue_Compare1 (thn (h pins s σ H _ I hw) fun v s1 h1=>thn h1 fun u s2 h2=>thn h2 fun c s3 ⟨x,H1,I1,r1,q1⟩=>?_) h1
 obtain⟨d,rfl,q⟩:=q1
 cases r1
 exact wpAny_truthy_bool ⟨H1,I1,q⟩
theorem LC (h:PE X e t)(he:∀whole,isTrue e X.env whole=(do let v <-whole;standAt e.pos;holding [v] (truthy v)):=by intro _;rfl):PT X e (tB t):=by
 intro pins s σ H Q I hw
 refine isTrue_plain (thn (h pins s σ H _ I hw) fun v s1 ⟨x,H1,I1,r1,q1⟩=>?_) (he _)
 obtain⟨d,rfl,q⟩:=q1
 cases r1
 exact wpAny_truthy_bool ⟨H1,I1,q⟩
variable {tA tB':TT}{rest:List Expr}
def md (t u:TT):TT:=fun σ H Q=>t σ H fun c H1=>if c=true then u σ H1 Q else Q false H1
def tOr (t u:TT):TT:=fun σ H Q=>t σ H fun c H1=>if c=true then Q true H1 else u σ H1 Q
def j4 (t:TT):TT:=fun σ H Q=>t σ H fun c H1=>Q (!c) H1
theorem TX (ha:PT X a tA):PW X (.BoolOp .And [a] pos) tA:=by
 intro wh pins s σ H Q I h
 refine isTrue_and (thn (ha pins s σ H Q I h) fun c s1 e=>?_)
 cases c with
 |true=>exact isTrue_and_nil e
 |false=>exact e
theorem Me (ha:PT X a tA):PW X (.BoolOp .Or [a] pos) tA:=by
 intro wh pins s σ H Q I h
 refine isTrue_or (thn (ha pins s σ H Q I h) fun c s1 e=>?_)
 cases c with
 |false=>exact isTrue_or_nil e
 |true=>exact e
theorem W2 (ha:PT X a tA)(hb:PW X (.BoolOp .And (b::rest) pos) tB'):PW X (.BoolOp .And (a::b::rest) pos) (md tA tB'):=by
 intro wh pins s σ H Q I h
 refine isTrue_and (thn (ha pins s σ H _ I h) fun c s1 ⟨H1,I1,q1⟩=>?_)
 cases c with
 |true=>exact hb wh pins s1 σ H1 Q I1 q1
 |false=>exact⟨H1,I1,q1⟩
theorem Oi (ha:PT X a tA)(hb:PW X (.BoolOp .Or (b::rest) pos) tB'):PW X (.BoolOp .Or (a::b::rest) pos) (tOr tA tB'):=by
 intro wh pins s σ H Q I h
 refine isTrue_or (thn (ha pins s σ H _ I h) fun c s1 ⟨H1,I1,q1⟩=>?_)
 cases c with
 |true=>exact⟨H1,I1,q1⟩
 |false=>exact hb wh pins s1 σ H1 Q I1 q1
theorem JM (ha:PT X a tA):PT X (.UnaryOp .Not a pos) (j4 tA):=by
 intro pins s σ H Q I h
 exact isTrue_not (ha pins s σ H (fun c H1=>Q (!c) H1) I h)
def j5 (ta tb:TE):TE:=fun σ H Q=>ta σ H fun x H1=>∃c,x=.bl c/\if c=true then tb σ H1 Q else Q (.bl false) H1
theorem ib {op}(h:PE X a t):PE X (.BoolOp op [a] pos) t:=fun pins s σ H Q I hw=>BoolOp_one (h pins s σ H Q I hw)
theorem ic (ha:PE X a ta)(hb:PE X (.BoolOp .And (b::rest) pos) tb):PE X (.BoolOp .And (a::b::rest) pos) (j5 ta tb):=by
 intro pins s σ H Q I h
 refine BoolOp_and (thn (ha pins s σ H _ I h) fun v s1 ⟨x,H1,I1,r1,q1⟩=>?_)
 obtain⟨c,rfl,q1⟩:=q1
 cases r1
 refine wpAny_truthy_bool ?_
 cases c with
 |true=>exact hb pins s1 σ H1 Q I1 q1
 |false=>exact⟨.bl false,H1,I1,rfl,q1⟩
def tIf (t:TT)(ta tb:TE):TE:=fun σ H Q=>t σ H fun c H1=>if c=true then ta σ H1 Q else tb σ H1 Q
theorem Es (hc:PT X c tA)(ha:PE X a ta)(hb:PE X b tb):PE X (.IfExp c a b pos) (tIf tA ta tb):=by
 intro pins s σ H Q I h
 refine wpAny_IfExp (thn (hc pins s σ H _ I h) fun d s1 ⟨H1,I1,q1⟩=>?_)
 cases d with
 |true=>exact ha pins s1 σ H1 Q I1 q1
 |false=>exact hb pins s1 σ H1 Q I1 q1
end
def SqL (K:PySem.W.Frag)(H:Hp)(a:Addr)(xs:List V):Prop:=
 Rd H a (.lst xs)\/
  ∃(o:Obj) (its:Array Value) (n:Nat),K.lookup a=some o/\o.cls=.type "list"/\o.dict=none/\o.data=.seq its n/\its.size<=sizeLine/\Vals xs its.toList
def SqT (K:PySem.W.Frag)(H:Hp)(a:Addr)(xs:List V):Prop:=
 Rd H a (.tup xs)\/
  ∃(o:Obj) (its:Array Value) (n:Nat),K.lookup a=some o/\o.cls=.type "tuple"/\o.data=.seq its n/\its.size<=sizeLine/\Vals xs its.toList
def me:Value->Option V
 | .none=>some .non
 | .bool b=>some (.bl b)
 | .int i _=>some (.int i)
 | .str x _=>some (.str x)
 | .bytes b _=>some (.byt b)
 | .float b _=>some (.flt b)
 | .ref a=>some (.ref a)
 | .type n=>some (.ty n)
 |_=>none
theorem RelV.abs (r:RelV x u):me u=some x:=by
 cases x with
 |non=>cases r;rfl
 |bl _=>cases r;rfl
 |int _=>obtain⟨t,rfl⟩:=r;rfl
 |str _=>obtain⟨t,rfl⟩:=r;rfl
 |byt _=>obtain⟨t,rfl⟩:=r;rfl
 |flt _=>obtain⟨t,rfl⟩:=r;rfl
 |ref _=>cases r;rfl
 |ty _=>cases r;rfl
theorem RelV.inj (r:RelV x u)(q:RelV y u):x=y:=Option.some.inj (r.abs.symm.trans q.abs)
theorem Vals.inj:∀{xs ys:List V}{us:List Value},Vals xs us->Vals ys us->xs=ys
 |_,_,_,.nil,.nil=>rfl
 |_,_,_,.cons r t,.cons r' t'=>by rw[r.inj r',Vals.inj t t']
section
variable {X:Cx}{pins:List (Addr×Obj)}{σ:St}{H:Hp}{s:Shared}{a:Addr}{xs ys:List V}
theorem SqL.of {K:PySem.W.Frag}(h:H a=some (.lst xs)):SqL K H a xs:=.inl (.inl h)
theorem SqT.of {K:PySem.W.Frag}(h:H a=some (.tup xs)):SqT K H a xs:=.inl (.inl h)
theorem Inv.list (I:Inv X pins σ H s)(h:SqL X.K H a xs):∃its:List Value,Vals xs its/\PlainL s.heap a its.toArray/\xs.length<=sizeLine:=by
 rcases h with h|⟨o,its,n,hk,hc,hd,hs,hz,r⟩
 ·obtain⟨z,its,n,r,e⟩:=h.ok I.hok
  exact⟨its,r,⟨_,n,e,rfl,rfl,rfl⟩,z⟩
 ·refine⟨its.toList,r,⟨o,n,I.kIn a o hk,hc,hd,by simpa using hs⟩,?_⟩
  have e:=r.length
  simp only[Array.length_toList]at e
  omega
theorem Inv.tuple (I:Inv X pins σ H s)(h:SqT X.K H a xs):∃its:List Value,Vals xs its/\IsTup s.heap a its.toArray/\xs.length<=sizeLine:=by
 rcases h with h|⟨o,its,n,hk,hc,hs,hz,r⟩
 ·obtain⟨z,its,r,p⟩:=h.ok I.hok
  exact⟨its,r,p,z⟩
 ·refine⟨its.toList,r,⟨o,I.kIn a o hk,hc,n,by simpa using hs⟩,?_⟩
  have e:=r.length
  simp only[Array.length_toList]at e
  omega
theorem Inv.O3 (I:Inv X pins σ H s)(h:SqL X.K H a xs)(h':SqL X.K H a ys):xs=ys:=by
 obtain⟨its,r,⟨o,n,e,_,_,d⟩,_⟩:=I.list h
 obtain⟨its',r',⟨o',n',e',_,_,d'⟩,_⟩:=I.list h'
 rw[e]at e';cases e'
 rw[d]at d'
 injection d' with d1 _
 have:its=its':=by simpa using congrArg Array.toList d1
 subst this
 exact r.inj r'
theorem Inv.R6 (I:Inv X pins σ H s)(h:SqT X.K H a xs)(h':SqT X.K H a ys):xs=ys:=by
 obtain⟨its,r,⟨o,e,_,n,d⟩,_⟩:=I.tuple h
 obtain⟨its',r',⟨o',e',_,n',d'⟩,_⟩:=I.tuple h'
 rw[e]at e';cases e'
 rw[d]at d'
 injection d' with d1 _
 have:its=its':=by simpa using congrArg Array.toList d1
 subst this
 exact r.inj r'
end
abbrev Cx.Qu (X:Cx)(E:Value->Shared->Prop):Cx:={X with xe:=E}
abbrev Cx.nox (X:Cx):Cx:=X.Qu fun _ _=>False
theorem Cx.Ok.Qu {X:Cx}(ok:X.Ok)(E:Value->Shared->Prop):(X.Qu E).Ok:=
 ⟨ok.mod,ok.kind,ok.glob,ok.blt,ok.above,ok.inj,ok.has,ok.cab,ok.hd,ok.frames,ok.stk,ok.exf,ok.bs,ok.bsz,ok.S6,ok.Qm,ok.JJ,ok.frf⟩
theorem Cx.Ok.JR {X:Cx}{E:Value->Shared->Prop}(ok:(X.Qu E).Ok):X.Ok:=
 ⟨ok.mod,ok.kind,ok.glob,ok.blt,ok.above,ok.inj,ok.has,ok.cab,ok.hd,ok.frames,ok.stk,ok.exf,ok.bs,ok.bsz,ok.S6,ok.Qm,ok.JJ,ok.frf⟩
section
variable {X:Cx}{pins:List (Addr×Obj)}{σ:St}{H:Hp}{s:Shared}{E:Value->Shared->Prop}
theorem Inv.Qu (I:Inv X pins σ H s)(E:Value->Shared->Prop):Inv (X.Qu E) pins σ H s:=⟨I.ok.Qu E,I.os,I.bare,I.base,I.loc,I.cell,I.free,I.Di,I.pin,I.hok,I.len⟩
theorem Inv.JR (I:Inv (X.Qu E) pins σ H s):Inv X pins σ H s:=⟨I.ok.JR,I.os,I.bare,I.base,I.loc,I.cell,I.free,I.Di,I.pin,I.hok,I.len⟩
theorem SP.JR (h:SP (X.Qu E) pins D f s'):SP X pins D f s':=by
 cases f with
 |next=>obtain⟨σ',H',I,q⟩:=h;exact⟨σ',H',I.JR,q⟩
 |brk=>obtain⟨σ',H',I,q⟩:=h;exact⟨σ',H',I.JR,q⟩
 |cont=>obtain⟨σ',H',I,q⟩:=h;exact⟨σ',H',I.JR,q⟩
 |ret u=>obtain⟨v,σ',H',I,r,q⟩:=h;exact⟨v,σ',H',I.JR,r,q⟩
theorem PSs.nox {st:List Stmt}{t:TS}(h:PSs X.nox st t):PSs X st t:=fun pins s σ H D I hw=>
 wpAny_mono (h pins s σ H D (I.Qu _) hw) (fun _ _ q=>q.JR) fun _ _ z=>False.elim z
end
section
variable {X:Cx}{st:Stmt}{rest:List Stmt}{t u:TS}{e:Expr}{te:TE}{pos:Pos}
def Rw:TS:=fun D σ H=>D.nx σ H
def Qv (t u:TS):TS:=fun D σ H=>t {D with nx:=u D} σ H
theorem Al:PSs X [] Rw:=fun _ _ σ H _ I h=>wpAny_execs_nil ⟨σ,H,I,h⟩
theorem AD (h1:PS X st t)(h2:PSs X rest u):PSs X (st::rest) (Qv t u):=by
 intro pins s σ H D I h
 refine wpAny_execs_cons (thn (h1 pins s σ H {D with nx:=u D} I h) fun f s1 q=>?_)
 cases f with
 |next=>
  obtain⟨σ',H',I',q⟩:=q
  exact h2 pins s1 σ' H' D I' q
 |ret v=>exact q
 |brk=>exact q
 |cont=>exact q
theorem AF (h1:PS X st t):PSs X [st] t:=by
 intro pins s σ H D I h
 refine wpAny_execs_cons (thn (h1 pins s σ H D I h) fun f s1 q=>?_)
 cases f with
 |next=>exact wpAny_execs_nil q
 |ret v=>exact q
 |brk=>exact q
 |cont=>exact q
theorem Inv.quiet (I:Inv X pins σ H s):interactive X.env=false:=by simp[interactive,I.ok.kind]
def aK (te:TE):TS:=fun D σ H=>te σ H fun _ H1=>D.nx σ H1
theorem Az (he:PE X e te)(hs:swapsWith e none pos.line X.env=pure false:=by rfl):PS X (.Expr e pos) (aK te):=by
 intro pins s σ H D I h
 exact wpAny_Expr_any (thn (he pins s σ H _ I h) fun v s1 ⟨x,H1,I1,r1,q1⟩=>⟨σ,H1,I1,q1⟩) I.quiet hs
def Ql (te:TE):TS:=fun D σ H=>te σ H D.rt
theorem AO (he:PE X e te):PS X (.Return (some e) pos) (Ql te):=by
 intro pins s σ H D I h
 exact wpAny_Return_some (thn (he pins s σ H _ I h) fun v s1 ⟨x,H1,I1,r1,q1⟩=>⟨x,σ,H1,I1,r1,q1⟩)
def aF (c:TT)(t u:TS):TS:=fun D σ H=>c σ H fun b H1=>if b=true then t D σ H1 else u D σ H1
theorem BR (hc:PT X c tc)(ha:PSs X a t)(hb:PSs X b u):PS X (.If c a b pos) (aF tc t u):=by
 intro pins s σ H D I h
 refine wpAny_If (thn (hc pins s σ H _ I h) fun d s1 ⟨H1,I1,q1⟩=>?_)
 cases d with
 |true=>exact ha pins s1 σ H1 D I1 q1
 |false=>exact hb pins s1 σ H1 D I1 q1
end
abbrev TG:=V->St->Hp->(St->Hp->Prop)->Prop
abbrev TGs:=List V->St->Hp->(St->Hp->Prop)->Prop
def PG (X:Cx)(target:Expr)(t:TG):Prop:=
 ∀(pins:List (Addr×Obj)) (s:Shared) (σ:St) (H:Hp) (v:V) (u:Value) (Q:St->Hp->Prop),Inv X pins σ H s->RelV v u->t v σ H Q->
  wpAny (model X.prog X.w) X.A (assign target X.env u) (fun _ s'=>∃σ' H',Inv X pins σ' H' s'/\Q σ' H') X.xe s
def PGs (X:Cx)(ts:List Expr)(t:TGs):Prop:=
 ∀(pins:List (Addr×Obj)) (s:Shared) (σ:St) (H:Hp) (vs:List V) (us:List Value) (Q:St->Hp->Prop),Inv X pins σ H s->Vals vs us->t vs σ H Q->
  wpAny (model X.prog X.w) X.A (assignInOrder ((assignEach ts X.env).map (·.2)) us) (fun _ s'=>∃σ' H',Inv X pins σ' H' s'/\Q σ' H') X.xe s
abbrev ie:=V->V->V->Hp->(Hp->Prop)->Prop
def j6 (X:Cx)(t:ie):Prop:=
 ∀(pins:List (Addr×Obj)) (s:Shared) (σ:St) (H:Hp) (o i v:V) (ov iv u:Value) (Q:Hp->Prop),Inv X pins σ H s->RelV o ov->RelV i iv->RelV v u->t o i v H Q->
  wpAny (model X.prog X.w) X.A (setItem ov iv u) (fun _ s'=>∃H',Inv X pins σ H' s'/\Q H') X.xe s
abbrev TIp:=V->V->Hp->VK->Prop
def PIp (X:Cx)(op:Operator)(t:TIp):Prop:=
 ∀(pins:List (Addr×Obj)) (s:Shared) (σ:St) (H:Hp) (x y:V) (v u:Value) (Q:VK),Inv X pins σ H s->RelV x v->RelV y u->t x y H Q->
  wpAny (model X.prog X.w) X.A (inplaceOp op v u) (EP X pins σ Q) X.xe s
section
variable {X:Cx}{pos:Pos}
def Eu (i:Nat):TG:=fun v σ H Q=>Q (σ.set i (some v)) H
theorem AX (hN:X.N.Nodup)(hi:X.N[i]? =some x)(hx:Loc X.env.scope x)(hf:X.fn x=true\/X.env.scope.names.lookup x=some .local:=by first|exact .inl rfl|exact .inr rfl|assumption):PG X (.Name x pos) (Eu i):=by
 intro pins s σ H v u Q I r h
 exact wpAny_assign_Name (O2 I hN hi hx r (fun s' I'=>⟨_,H,I',h⟩) hf)
def mf:TGs:=fun vs σ H Q=>vs=[]/\Q σ H
inductive aR (t:TG)(u:TGs)(vs:List V)(σ:St)(H:Hp)(Q:St->Hp->Prop):Prop
 |mk (v:V) (r:List V) (e:vs=v::r) (q:t v σ H fun σ' H'=>u r σ' H' Q):aR t u vs σ H Q
def j7 (t:TG)(u:TGs):TGs:=fun vs σ H Q=>aR t u vs σ H Q
theorem FC:PGs X [] mf:=by
 intro pins s σ H vs us Q I r h
 obtain⟨e,h⟩:=h
 subst e
 cases r
 exact assignInOrder_nil ⟨σ,H,I,h⟩
theorem BL (h1:PG X e t)(h2:PGs X es u)
  (hs:(assignEach (e::es) X.env).map (·.2)=assign e X.env::(assignEach es X.env).map (·.2):=by rfl):PGs X (e::es) (j7 t u):=by
 intro pins s σ H vs us Q I r h
 obtain⟨v,vr,e1,h⟩:=h
 subst e1
 cases r with
 |cons r rr=>
  rw[hs]
  refine assignInOrder_cons (thn (h1 pins s σ H _ _ _ I r h) fun _ s1 ⟨σ1,H1,I1,q1⟩=>?_)
  exact h2 pins s1 σ1 H1 _ _ Q I1 rr q1
inductive fV (K:PySem.W.Frag)(n:Nat)(t:TGs)(v:V)(σ:St)(H:Hp)(Q:St->Hp->Prop):Prop
 |mk (a:Addr) (xs:List V) (e:v=.ref a) (s:SqT K H a xs) (l:xs.length=n) (q:t xs σ H Q):fV K n t v σ H Q
def mh (K:PySem.W.Frag)(n:Nat)(t:TGs):TG:=fun v σ H Q=>fV K n t v σ H Q
theorem Hw (hc:X.calm=true)(h:PGs X es t)
  (hn:(assignEach es X.env).length=n:=by rfl)(hst:(assignEach es X.env).findIdx? (·.1)=none:=by rfl):PG X (.Tuple es k pos) (mh X.K n t):=by
 intro pins s σ H v u Q I r hw
 obtain⟨a,xs,e1,hq,hl,hw⟩:=hw
 subst e1
 cases r
 obtain⟨its,rv,ht,hz⟩:=I.tuple hq
 refine assign_Tuple_tuple (I.ok.hd hc) ht (by simp[hn,<-hl,rv.length]) hst fun h' hx=>?_
 have I1:Inv X pins σ H {s with heap:=h'}:=I.kept (t':=s.toks) fun b o e=>hx b o (Nat.ne_of_lt (Heap.lt_size e)) e
 exact h pins _ σ H xs _ Q I1 (by simpa using rv) hw
def N4 (te:TE)(g:TG):TS:=fun D σ H=>te σ H fun x H1=>g x σ H1 D.nx
theorem AN (hN:X.N.Nodup)(hi:X.N[i]? =some x)(hx:Loc X.env.scope x)(he:PE X e te)(hs:swapsWith e (some (.Name x pos')) pos.line X.env=pure false:=by rfl)(hf:X.fn x=true\/X.env.scope.names.lookup x=some .local:=by first|exact .inl rfl|exact .inr rfl|assumption):
  PS X (.Assign [.Name x pos'] e pos) (N4 te (Eu i)):=by
 intro pins s σ H D I h
 refine wpAny_Assign_Name (thn (he pins s σ H _ I h) fun v s1 ⟨y,H1,I1,r1,q1⟩=>?_) hs
 exact O2 I1 hN hi hx r1 (fun s2 I2=>⟨_,H1,I2,q1⟩) hf
inductive j8 (i:Nat)(te:TE)(ti:TIp)(D:Ends)(σ:St)(H:Hp):Prop
 |mk (x:V) (h:σ[i]? =some (some x)) (q:te σ H fun y H1=>ti x y H1 fun z H2=>D.nx (σ.set i (some z)) H2):j8 i te ti D σ H
def mi (i:Nat)(te:TE)(ti:TIp):TS:=fun D σ H=>j8 i te ti D σ H
theorem LH (hN:X.N.Nodup)(hi:X.N[i]? =some x)(hx:Loc X.env.scope x)(he:PE X e te)(ho:PIp X op ti)(hf:X.fn x=true\/X.env.scope.names.lookup x=some .local:=by first|exact .inl rfl|exact .inr rfl|assumption):
  PS X (.AugAssign (.Name x pos') op e pos) (mi i te ti):=by
 intro pins s σ H D I h
 obtain⟨v,e1,h⟩:=h
 obtain⟨m,hn,hl⟩:=I.loc
 have vis:Vis X.env.scope x:=by rcases hx with k|k;exact .inl k;exact .inr (.inl k)
 obtain⟨u,r,l⟩:=hl i x v hi e1 vis
 refine wpAny_AugAssign_Name ?_
 have go:wpAny (model X.prog X.w) X.A (eval e X.env) (fun w s₂=>wpAny (model X.prog X.w) X.A (inplaceOp op u w) (fun r s₃=>wpAny (model X.prog X.w) X.A (storeName X.env x r) (fun _=>SP X pins D .next) X.xe s₃) X.xe s₂) X.xe s:=by
  refine thn (he pins s σ H _ I h) fun w s1 ⟨y,H1,I1,r1,q1⟩=>?_
  refine thn (ho pins s1 σ H1 v y u w _ I1 r r1 q1) fun z s2 ⟨zv,H2,I2,r2,q2⟩=>?_
  exact O2 I2 hN hi hx r2 (fun s3 I3=>⟨_,H2,I3,q2⟩) hf
 rcases l with⟨hk,hm⟩|⟨hk,c,hc,hcell⟩
 ·exact wpAny_loadName_local I.ok.kind hk hn hm go
 ·rcases hk with hk|hk
  ·exact wpAny_loadName_cell I.ok.kind hk hc hcell go
  ·rcases hx with k|k
   ·have:X.env.scope.names.lookup x=some .free:=hk
    rw[k]at this;cases this
   ·have:X.env.scope.names.lookup x=some .free:=hk
    rw[k]at this;cases this
def j9 (to ti te:TE)(tget:V->V->Hp->VK->Prop)(tip:TIp)(tset:ie):TS:=fun D σ H=>to σ H fun o H1=>ti σ H1 fun i H2=>tget o i H2 fun x H3=>te σ H3 fun y H4=>tip x y H4 fun z H5=>tset o i z H5 fun H6=>D.nx σ H6
def kC (X:Cx)(t:V->V->Hp->VK->Prop):Prop:=
 ∀(pins:List (Addr×Obj)) (s:Shared) (σ:St) (H:Hp) (o i:V) (ov iv:Value) (Q:VK),Inv X pins σ H s->RelV o ov->RelV i iv->t o i H Q->
  wpAny (model X.prog X.w) X.A (getItem ov iv) (EP X pins σ Q) X.xe s
theorem TY (ho:PE X o to)(hi:PE X i ti)(hg:kC X tget)(he:PE X e te)(hp:PIp X op tip)(hs:j6 X tset)
  (ha:∀ov iv new,augStore i ov iv new=(do holding [new,ov,iv] (setItem ov iv new);release [new,ov,iv] [];pure .next):=by intros;rfl):PS X (.AugAssign (.Subscript o i tpos) op e pos) (j9 to ti te tget tip tset):=by
 intro pins s σ H D I h
 refine wpAny_AugAssign_SubscriptAny (thn (ho pins s σ H _ I h) fun ov s1 ⟨x1,H1,I1,r1,q1⟩=>?_) ha
 refine thn (hi pins s1 σ H1 _ I1 q1) fun iv s2 ⟨x2,H2,I2,r2,q2⟩=>?_
 refine thn (hg pins s2 σ H2 x1 x2 ov iv _ I2 r1 r2 q2) fun old s3 ⟨x3,H3,I3,r3,q3⟩=>?_
 refine thn (he pins s3 σ H3 _ I3 q3) fun v s4 ⟨x4,H4,I4,r4,q4⟩=>?_
 refine thn (hp pins s4 σ H4 x3 x4 old v _ I4 r3 r4 q4) fun new s5 ⟨x5,H5,I5,r5,q5⟩=>?_
 exact thn (hs pins s5 σ H5 x1 x2 x5 ov iv new _ I5 r1 r2 r5 q5) fun _ s6 ⟨H6,I6,q6⟩=>⟨σ,H6,I6,q6⟩
inductive IpI (f:Int->Int->Int)(x y:V)(H:Hp)(Q:VK):Prop
 |mk (i j:Int) (e1:x=.int i) (e2:y=.int j) (q:Q (.int (f i j)) H):IpI f x y H Q
def ipI (f:Int->Int->Int):TIp:=fun x y H Q=>IpI f x y H Q
theorem G6:PIp X .Add (ipI fun i j=>i+j):=by
 intro pins s σ H x y v u Q I r1 r2 h
 obtain⟨i,j,e1,e2,q⟩:=h
 subst e1;subst e2
 obtain⟨t,rfl⟩:=r1
 obtain⟨t',rfl⟩:=r2
 exact iadd_int ⟨.int _,H,I.tok _,⟨_,rfl⟩,q⟩
def aS (c:TT)(tb:TS):TS:=fun D σ H=>∃W:Nat->St->Hp->Prop,(∃m,W m σ H)/\∀m σ H,W m σ H->
 c σ H fun b H1=>if b=true then ∃N:St->Hp->Prop,(∀σ' H',N σ' H'->∃m',m'<m/\W m' σ' H')/\tb {D with nx:=N,ct:=N,bk:=D.nx} σ H1 else D.nx σ H1
theorem VN (hp:PassesOwn (model X.prog X.w) X.A X.env X.xe)(hc:PT X c tc)(hb:PSs X body tb):PS X (.While c body [] pos) (aS tc tb):=by
 intro pins s σ H D I h
 obtain⟨W,⟨m0,w0⟩,turn⟩:=h
 refine wpAny_While (codeAny_whileLoop (fun n s'=>∃σ' H',Inv X pins σ' H' s'/\W n σ' H') ?_ m0 ⟨σ,H,I,w0⟩)
 rintro n s1 ⟨σ1,H1,I1,w1⟩
 refine wpAny_passesOwn hp (thn (hc pins s1 σ1 H1 _ I1 (turn n σ1 H1 w1)) fun b s2 ⟨H2,I2,q2⟩=>?_)
 cases b with
 |true=>
  obtain⟨N,hN,q2⟩:=q2
  rw[if_pos rfl]
  refine wpAny_passesOwn hp (thn (hb pins s2 σ1 H2 _ I2 q2) fun f s3 q3=>?_)
  cases f with
  |next=>
   obtain⟨σ3,H3,I3,n3⟩:=q3
   obtain⟨m',hm,w3⟩:=hN σ3 H3 n3
   exact⟨m',hm,σ3,H3,I3,w3⟩
  |cont=>
   obtain⟨σ3,H3,I3,n3⟩:=q3
   obtain⟨m',hm,w3⟩:=hN σ3 H3 n3
   exact⟨m',hm,σ3,H3,I3,w3⟩
  |brk=>exact q3
  |ret v=>exact q3
 |false=>
  rw[if_neg Bool.false_ne_true]
  exact wpAny_execs_nil ⟨σ1,H2,I2,q2⟩
end
structure It where
 go:Nat->Hp->Prop
 yld:Nat->Hp->V->Hp->Prop
 stop:Nat->Hp->Prop
def Ki (X:Cx)(pins:List (Addr×Obj))(H:Hp)(b:Addr):Prop:=
 H b=none/\b≠X.env.locals/\b∉X.fs/\(b∈X.ex\/X.s_0.heap.objs.size<=b)/\(∀x c,X.env.cells.lookup x=some c->c≠b)/\∀p∈X.pn++pins,p.1≠b
theorem Inv.TZ (I:Inv X pins σ H s)(hb:s.heap.objs.size<=b)(hn:H' b=none):Ki X pins H' b:=by
 refine⟨hn,Nat.ne_of_gt (Nat.lt_of_lt_of_le I.lt hb),I.mZ hb,.inr (Nat.le_trans I.sz hb),fun x c e z=>?_,fun p hp z=>?_⟩
 ·obtain⟨v,q⟩:=I.cell x c e
  exact absurd (Nat.lt_of_lt_of_le q.lt (by rw[z];exact hb)) (Nat.lt_irrefl _)
 ·exact absurd (Nat.lt_of_lt_of_le (Heap.lt_size (I.pin p hp).1) (by rw[z];exact hb)) (Nat.lt_irrefl _)
structure Turn (P:Program)(w:World)(K:PySem.W.Frag)(tg:Expr)(J:It)(fp:List Addr)(it:Addr)(tn:Nat->Heap->Prop):Prop where
 mem:it∈fp
 obj:∀i h,tn i h->∀b∈fp,∃o,h.get? b=some o/\∀v,o.data≠.cell v
 keep:∀i h h',tn i h->(∀b∈fp,∀o,h.get? b=some o->h'.get? b=some o)->tn i h'
 item:∀(X:Cx),X.prog=P->X.w=w->X.K=K->X.calm=true->∀(i:Nat) (pins:List (Addr×Obj)) (s:Shared) (σ:St) (H:Hp) (E:Value->Shared->Prop),Inv X pins σ H s->(∀b∈fp,Ki X pins H b)->tn i s.heap->J.go i H->
  wpAny (model P w) X.A (pyNext (.ref it)) (fun r s1=>∃u,r=some u/\
   wpAny (model P w) X.A (letOwnedTupleGo tg (.ref it) u) (fun _ s2=>∃x H',Inv X pins σ H' s2/\RelV x u/\J.yld i H x H'/\tn (i+1) s2.heap/\∀b∈fp,H' b=none) E s1) E s
 done:∀(X:Cx),X.prog=P->X.w=w->X.K=K->X.calm=true->∀(i:Nat) (pins:List (Addr×Obj)) (s:Shared) (σ:St) (H:Hp) (E:Value->Shared->Prop),Inv X pins σ H s->(∀b∈fp,Ki X pins H b)->tn i s.heap->J.stop i H->
  wpAny (model P w) X.A (pyNext (.ref it)) (fun r s1=>r=none/\Inv X pins σ H s1) E s
 self:∀(A:Around) (i:Nat) (s:Shared) (Q:Value->Shared->Prop) (E:Value->Shared->Prop),tn i s.heap->Q (.ref it) s->wpAny (model P w) A (pyIter (.ref it)) Q E s
abbrev TI:=St->Hp->(It->Hp->Prop)->Prop
def PIE (X:Cx)(pins:List (Addr×Obj))(σ:St)(tg:Expr)(R:It->Hp->Prop)(itv:Value)(s2:Shared):Prop:=
 ∃(it:Addr) (fp:List Addr) (tn:Nat->Heap->Prop) (J:It) (H':Hp),itv=.ref it/\Inv X pins σ H' s2/\Turn X.prog X.w X.K tg J fp it tn/\tn 0 s2.heap/\(∀b∈fp,Ki X pins H' b)/\R J H'
def PI (X:Cx)(tg iter:Expr)(wi:TI):Prop:=
 ∀(pins:List (Addr×Obj)) (s:Shared) (σ:St) (H:Hp) (R:It->Hp->Prop),Inv X pins σ H s->wi σ H R->
  wpAny (model X.prog X.w) X.A (eval iter X.env) (fun v s1=>wpAny (model X.prog X.w) X.A (pyIter v) (PIE X pins σ tg R) X.xe s1) X.xe s
theorem YD (ho:s.heap.get? it=some o)(hc:o.cls=.type n)(hd:o.data=.fields vs)
  (hn:["enumerate","zip","dict_itemiterator","dict_reverseitemiterator","odict_iterator","itertools.zip_longest","itertools.pairwise"].contains n=false)(hQ:Q () s):wpAny M A (letOwnedTupleGo tg (.ref it) u) Q E s:=by
 unfold letOwnedTupleGo
 cases tg <;> first
  |exact wpAny_pure hQ
  |(cases u <;> first
    |exact wpAny_pure hQ
    |(refine wpAny_bind (wpAny_load ho ?_)
      rw[hc,hd]
      show wpAny M A (if(["enumerate","zip","dict_itemiterator","dict_reverseitemiterator","odict_iterator","itertools.zip_longest","itertools.pairwise"].contains n&&vs[0]? == some (rawInt _))=true then _ else _) Q E s
      rw[if_neg (by intro h;rw[hn,Bool.false_and]at h;cases h)]
      exact wpAny_pure hQ))
def Itl (K:PySem.W.Frag)(a:Addr):It:=
 ⟨fun i H=>∃xs x,SqL K H a xs/\xs[i]? =some x,fun i H x H'=>H'=H/\∀xs,SqL K H a xs->xs[i]? =some x,fun i H=>∃xs,SqL K H a xs/\xs.length<=i⟩
def Itt (K:PySem.W.Frag)(a:Addr):It:=
 ⟨fun i H=>∃xs x,SqT K H a xs/\xs[i]? =some x,fun i H x H'=>H'=H/\∀xs,SqT K H a xs->xs[i]? =some x,fun i H=>∃xs,SqT K H a xs/\xs.length<=i⟩
def Itr (lo:Int)(n:Nat):It:=⟨fun i _=>i<n,fun i H x H'=>H'=H/\x=.int (lo+i),fun i _=>n<=i⟩
theorem Y7 {P:Program}{w:World}{K:PySem.W.Frag}{tg:Expr}(a it:Addr):Turn P w K tg (Itl K a) [it] it (fun i h=>h.IsListIter it a i) where
 mem:=by simp
 obj:=fun i h st b hb=>by
  have e:b=it:=by simpa using hb
  subst e
  obtain⟨o,e,c,d⟩:=st
  exact⟨o,e,fun v z=>by rw[d]at z;cases z⟩
 keep:=fun i h h' st k=>st.at fun o e=>k it (by simp) o e
 item:=by
  intro X hP hw hK hc i pins s σ H E I hf st hg
  subst hP hw hK
  obtain⟨xs,x,hq,hx⟩:=hg
  obtain⟨its,rv,p,hz⟩:=I.list hq
  obtain⟨u,hu,ru⟩:=rv.get hx
  obtain⟨f0,f1,f2,f3,f4,f5⟩:=hf it (by simp)
  refine wpAny_pyNext_list_item st p.isList (x:=u) (by simpa using hu) fun h' st' sb=>?_
  have I1:Inv X pins σ H {s with heap:=h'}:=I.turned (t':=s.toks) (fun b o hb e=>(sb.2 b hb).trans e) f0 f1 f3 f4 f5
  obtain⟨o,e,c,d⟩:=id st'
  exact⟨u,rfl,YD (s:={s with heap:=h'}) e c d (by decide) ⟨x,H,I1,ru,⟨rfl,fun ys hy=>by rw[I.O3 hy hq];exact hx⟩,st',fun b hb=>(hf b hb).1⟩⟩
 done:=by
  intro X hP hw hK hc i pins s σ H E I hf st hg
  subst hP hw hK
  obtain⟨xs,hq,hx⟩:=hg
  obtain⟨its,rv,p,hz⟩:=I.list hq
  obtain⟨f0,f1,f2,f3,f4,f5⟩:=hf it (by simp)
  have hl:=rv.length
  exact wpAny_pyNext_list_end (I.ok.hd hc) st p.isList (by simp;omega) fun h' eb=>⟨rfl,I.turned (t':=s.toks) (fun b o hb e=>eb b o hb e) f0 f1 f3 f4 f5⟩
 self:=fun _ _ _ _ _ st h=>wpAny_pyIter_listiter st h
theorem W3 {P:Program}{w:World}{K:PySem.W.Frag}{tg:Expr}(a it:Addr):Turn P w K tg (Itt K a) [it] it (fun i h=>h.IsTupleIter it a i) where
 mem:=by simp
 obj:=fun i h st b hb=>by
  have e:b=it:=by simpa using hb
  subst e
  obtain⟨o,e,c,d⟩:=st
  exact⟨o,e,fun v z=>by rw[d]at z;cases z⟩
 keep:=fun i h h' st k=>st.at fun o e=>k it (by simp) o e
 item:=by
  intro X hP hw hK hc i pins s σ H E I hf st hg
  subst hP hw hK
  obtain⟨xs,x,hq,hx⟩:=hg
  obtain⟨its,rv,p,hz⟩:=I.tuple hq
  obtain⟨u,hu,ru⟩:=rv.get hx
  obtain⟨f0,f1,f2,f3,f4,f5⟩:=hf it (by simp)
  refine wpAny_pyNext_tuple_item st (show s.heap.IsTuple a its.toArray from p) (x:=u) (by simpa using hu) fun h' st' sb=>?_
  have I1:Inv X pins σ H {s with heap:=h'}:=I.turned (t':=s.toks) (fun b o hb e=>(sb.2 b hb).trans e) f0 f1 f3 f4 f5
  obtain⟨o,e,c,d⟩:=id st'
  exact⟨u,rfl,YD (s:={s with heap:=h'}) e c d (by decide) ⟨x,H,I1,ru,⟨rfl,fun ys hy=>by rw[I.R6 hy hq];exact hx⟩,st',fun b hb=>(hf b hb).1⟩⟩
 done:=by
  intro X hP hw hK hc i pins s σ H E I hf st hg
  subst hP hw hK
  obtain⟨xs,hq,hx⟩:=hg
  obtain⟨its,rv,p,hz⟩:=I.tuple hq
  obtain⟨f0,f1,f2,f3,f4,f5⟩:=hf it (by simp)
  have hl:=rv.length
  exact wpAny_pyNext_tuple_end (I.ok.hd hc) st (show s.heap.IsTuple a its.toArray from p) (by simp;omega) fun h' eb=>⟨rfl,I.turned (t':=s.toks) (fun b o hb e=>eb b o hb e) f0 f1 f3 f4 f5⟩
 self:=fun _ _ _ _ _ st h=>wpAny_pyIter_tupleiter st h
theorem W4 {P:Program}{w:World}{K:PySem.W.Frag}{tg:Expr}(it:Addr)(lo:Int)(n:Nat):Turn P w K tg (Itr lo n) [it] it (fun i h=>IsRangeIter h it (lo+(i:Nat)*1) ((n:Int) - (i:Nat)) 1) where
 mem:=by simp
 obj:=fun i h st b hb=>by
  have e:b=it:=by simpa using hb
  subst e
  exact⟨_,st,fun v z=>by
   have z':Data.fields _=Data.cell v:=z
   cases z'⟩
 keep:=fun i h h' st k=>k it (by simp) _ st
 item:=by
  intro X hP hw hK hc i pins s σ H E I hf st hg
  subst hP hw hK
  obtain⟨f0,f1,f2,f3,f4,f5⟩:=hf it (by simp)
  have W:=Walks.range (prog:=X.prog) (w:=X.w) (I.ok.hd hc) it lo 1 n
  refine W.item i s _ _ hg st fun v h' tk hv st' kk=>?_
  obtain⟨t,rfl⟩:=hv
  have I1:Inv X pins σ H {s with heap:=h',toks:=tk}:=I.turned (fun b o hb e=>kk b o (by simpa using hb) e) f0 f1 f3 f4 f5
  refine⟨_,rfl,YD (s:={s with heap:=h',toks:=tk}) (n:="range_iterator") st' rfl rfl (by decide) ⟨.int (lo+i),H,I1,⟨t,?_⟩,⟨rfl,rfl⟩,st',fun b hb=>(hf b hb).1⟩⟩
  rw[Int.mul_one]
 done:=by
  intro X hP hw hK hc i pins s σ H E I hf st hg
  subst hP hw hK
  obtain⟨f0,f1,f2,f3,f4,f5⟩:=hf it (by simp)
  exact wpAny_pyNext_range_end (I.ok.hd hc) st (by have:n<=i:=hg;omega) fun h' eb=>⟨rfl,I.turned (t':=s.toks) (fun b o hb e=>eb b o hb e) f0 f1 f3 f4 f5⟩
 self:=fun _ _ _ _ _ st h=>wpAny_pyIter_rangeiter st h
section
variable {X:Cx}{tg:Expr}
inductive fW (K:PySem.W.Frag)(x:V)(H1:Hp)(R:It->Hp->Prop):Prop
 |mk (a:Addr) (e:x=.ref a) (s:∃xs,SqL K H1 a xs) (q:R (Itl K a) H1):fW K x H1 R
def aE (K:PySem.W.Frag)(tl:TE):TI:=fun σ H R=>tl σ H fun x H1=>fW K x H1 R
inductive fX (K:PySem.W.Frag)(x:V)(H1:Hp)(R:It->Hp->Prop):Prop
 |mk (a:Addr) (e:x=.ref a) (s:∃xs,SqT K H1 a xs) (q:R (Itt K a) H1):fX K x H1 R
def ml (K:PySem.W.Frag)(tl:TE):TI:=fun σ H R=>tl σ H fun x H1=>fX K x H1 R
theorem Cz {l:Expr}{tl:TE}(hl:PE X l tl):PI X tg l (aE X.K tl):=by
 intro pins s σ H R I h
 refine thn (hl pins s σ H _ I h) fun v s1 ⟨x,H1,I1,r1,q1⟩=>?_
 obtain⟨a,e,⟨xs,hq⟩,q⟩:=q1
 subst e
 cases r1
 obtain⟨its,rv,p,hz⟩:=I1.list hq
 refine wpAny_pyIter_list p.isList ?_
 refine⟨s1.heap.objs.size,[s1.heap.objs.size],_,_,H1,rfl,I1.kept (t':=s1.toks) fun b o e=>Heap.get?_push_of_some _ e,Y7 a _,⟨_,Heap.get?_push_size _ rfl,rfl,rfl⟩,fun b hb=>?_,q⟩
 have e:b=s1.heap.objs.size:=by simpa using hb
 subst e
 exact I1.TZ (Nat.le_refl _) (I1.hok.fresh (Nat.le_refl _))
theorem ig {l:Expr}{tl:TE}(hl:PE X l tl):PI X tg l (ml X.K tl):=by
 intro pins s σ H R I h
 refine thn (hl pins s σ H _ I h) fun v s1 ⟨x,H1,I1,r1,q1⟩=>?_
 obtain⟨a,e,⟨xs,hq⟩,q⟩:=q1
 subst e
 cases r1
 obtain⟨its,rv,p,hz⟩:=I1.tuple hq
 refine wpAny_pyIter_tuple (show s1.heap.IsTuple a its.toArray from p) ?_
 refine⟨s1.heap.objs.size,[s1.heap.objs.size],_,_,H1,rfl,I1.kept (t':=s1.toks) fun b o e=>Heap.get?_push_of_some _ e,W3 a _,⟨_,Heap.get?_push_size _ rfl,rfl,rfl⟩,fun b hb=>?_,q⟩
 have e:b=s1.heap.objs.size:=by simpa using hb
 subst e
 exact I1.TZ (Nat.le_refl _) (I1.hok.fresh (Nat.le_refl _))
theorem VO {pins:List (Addr×Obj)}{σ:St}{H:Hp}{s:Shared}{R:It->Hp->Prop}{E:Value->Shared->Prop}{lo hi:Int}{t u v:Tok}{tk:Nat}(I:Inv X pins σ H s)(h1:-(2 ^ 62)<=lo)(h2:lo<2 ^ 62)(h3:-(2 ^ 62)<=hi)(h4:hi<2 ^ 62)
  (q:R (Itr lo (hi - lo).toNat) H):wpAny (model X.prog X.w) X.A (pyIter (.ref s.heap.objs.size)) (PIE X pins σ tg R) E {s with heap:=s.heap.push {cls:=.type "range",data:=.fields #[.int lo t,.int hi u,.int 1 v]},toks:=tk}:=by
 refine wpAny_pyIter_range (IsRange.new ..) (small_one h1 h2 h3 h4) ?_
 have I1:Inv X pins σ H {s with heap:=s.heap.push {cls:=.type "range",data:=.fields #[.int lo t,.int hi u,.int 1 v]},toks:=tk}:=I.kept fun b o e=>Heap.get?_push_of_some _ e
 refine⟨(s.heap.push {cls:=.type "range",data:=.fields #[.int lo t,.int hi u,.int 1 v]}).objs.size,[(s.heap.push {cls:=.type "range",data:=.fields #[.int lo t,.int hi u,.int 1 v]}).objs.size],_,_,H,rfl,
  I1.kept (t':=tk) fun b o e=>Heap.get?_push_of_some _ e,W4 _ lo (hi - lo).toNat,?_,fun b hb=>?_,q⟩
 ·have e1:lo+((0:Nat):Int)*1=lo:=by simp
  have e2:(((hi - lo).toNat:Nat):Int) - ((0:Nat):Int)=Builtin.Range.rangeSize lo hi 1:=by rw[rangeSize_one];split <;> omega
  show IsRangeIter _ _ (lo+((0:Nat):Int)*1) ((((hi - lo).toNat:Nat):Int) - ((0:Nat):Int)) 1
  rw[e1,e2]
  exact Heap.get?_push_size _ rfl
 ·have e:b=(s.heap.push {cls:=.type "range",data:=.fields #[.int lo t,.int hi u,.int 1 v]}).objs.size:=by simpa using hb
  subst e
  exact I1.TZ (Nat.le_refl _) (I1.hok.fresh (Nat.le_refl _))
inductive fY (vs:List V)(H1:Hp)(R:It->Hp->Prop):Prop
 |mk (j:Int) (e:vs=[.int j]) (l:-(2 ^ 62)<=j) (u:j<2 ^ 62) (q:R (Itr 0 j.toNat) H1):fY vs H1 R
def kE (ta:TA):TI:=fun σ H R=>ta σ H fun vs H1=>fY vs H1 R
def kF (ta:TA):TI:=fun σ H R=>ta σ H fun vs H1=>∃i j:Int,vs=[.int i,.int j]/\(-(2 ^ 62)<=i/\i<2 ^ 62/\-(2 ^ 62)<=j/\j<2 ^ 62)/\R (Itr i (j - i).toNat) H1
theorem Bo {a:Expr}{ta:TA}{p pos:Pos}(hg:Gl X "range")(hm:X.mg "range"=none)(ha:PA X [a] ta)(hs:starEach [a] X.env=[(false,eval a X.env)]:=by rfl):PI X tg (.Call (.Name "range" p) [a] [] pos) (kE ta):=by
 intro pins s σ H R I h
 refine Call_ (JQ I hg hm boot_range (PyProof.Rows.callWith_type1 (thn (ha pos pins s σ H _ I h) fun us s1 ⟨vs,H1,I1,r1,q1⟩=>?_) hs rfl))
 obtain⟨j,e,q1,q2,q⟩:=q1
 subst e
 cases r1 with
 |cons r rr=>
  cases rr
  obtain⟨t,rfl⟩:=r
  exact call_range_1 (VO I1 (by omega) (by omega) q1 q2 (by simpa using q))
theorem R7 (hg:Gl X "range")(hm:X.mg "range"=none)(ha:PA X [a,b] ta)(hs:starEach [a,b] X.env=[(false,eval a X.env),(false,eval b X.env)]:=by rfl)(hs2:starEach [b] X.env=[(false,eval b X.env)]:=by rfl):
  PI X tg (.Call (.Name "range" p) [a,b] [] pos) (kF ta):=by
 intro pins s σ H R I h
 refine Call_ (JQ I hg hm boot_range (PyProof.Rows.callWith_type1 (thn (ha pos pins s σ H _ I h) fun us s1 ⟨vs,H1,I1,r1,q1⟩=>?_) (by rw[hs,hs2]) (by rw[hs2];rfl)))
 obtain⟨i,j,e,⟨q1,q2,q3,q4⟩,q⟩:=q1
 subst e
 cases r1 with
 |cons r rr=>
  cases rr with
  |cons r' rr=>
   cases rr
   obtain⟨t,rfl⟩:=r
   obtain⟨t',rfl⟩:=r'
   exact call_range_2 (VO I1 q1 q2 q3 q4 q)
def iO (wi:TI)(g:TG)(tb:TS):TS:=fun D σ H=>wi σ H fun J H1=>∃W:Nat->Nat->St->Hp->Prop,(∃m,W 0 m σ H1)/\∀i m σ H,W i m σ H->
 (J.stop i H/\D.nx σ H)\/(J.go i H/\∃N:St->Hp->Prop,(∀σ' H',N σ' H'->∃m',m'<m/\W (i+1) m' σ' H')/\∀x H',J.yld i H x H'->g x σ H' fun σ2 H2=>tb {D with nx:=N,ct:=N,bk:=D.nx} σ2 H2)
def Mo (fp:List Addr)(h:Heap):List (Addr×Obj):=fp.filterMap fun b=>(h.get? b).map fun o=>(b,o)
theorem Hx (hb:b∈fp)(e:h.get? b=some o):(b,o)∈Mo fp h:=List.mem_filterMap.mpr ⟨b,hb,by rw[e];rfl⟩
theorem Y8 (hp:p∈Mo fp h):p.1∈fp/\h.get? p.1=some p.2:=by
 obtain⟨b,hb,e⟩:=List.mem_filterMap.mp hp
 cases q:h.get? b with
 |none=>rw[q]at e;cases e
 |some o=>
  rw[q]at e
  have e':(b,o)=p:=Option.some.inj e
  subst e'
  exact⟨hb,q⟩
theorem Inv.pinned (I:Inv X pins σ H s)(hf:∀b∈fp,Ki X pins H b)(ho:∀b∈fp,∃o,s.heap.get? b=some o/\∀v,o.data≠.cell v):Inv X (pins++Mo fp s.heap) σ H s:=
 I.YC fun p hp=>(List.mem_append.mp hp).elim (fun z=>I.pin p (List.mem_append_right _ z)) fun z=>by
  obtain⟨hb,e⟩:=Y8 z
  obtain⟨f0,f1,f2,_⟩:=hf p.1 hb
  obtain⟨o,e',d⟩:=ho p.1 hb
  rw[e]at e';cases e'
  exact⟨e,f0,f1,f2,d⟩
theorem Inv.JS (I:Inv X (pins++pl) σ H s):Inv X pins σ H s:=I.YC fun p hp=>I.pin p (List.mem_append_right _ (List.mem_append_left _ hp))
theorem BD (hp:PassesOwn (model X.prog X.w) X.A X.env X.xe)(hc:X.calm=true)(hi:PI X tg iter wi)(hg:PG X tg g)(hb:PSs X body tb)
  (hs:∀x,foldedSetIterable iter X.env x=pure x:=by intro _;rfl):PS X (.For tg iter body [] pos) (iO wi g tb):=by
 intro pins s σ H D I h
 refine wpAny_For (thn (hi pins s σ H _ I h) fun v s1 h1=>thn h1 fun itv s2 h2=>?_) hs
 obtain⟨it,fp,tn,J,H2,e,I2,T,st2,f2,W,⟨m0,w0⟩,turn⟩:=h2
 subst e
 have stat:∀{H':Hp},(∀b∈fp,H' b=none)->∀b∈fp,Ki X pins H' b:=fun hn b hb=>⟨hn b hb,(f2 b hb).2⟩
 refine codeAny_forLoop_any (fun n s'=>∃i σ' H',Inv X pins σ' H' s'/\tn i s'.heap/\(∀b∈fp,H' b=none)/\W i n σ' H') ?_ m0 ⟨0,σ,H2,I2,st2,fun b hb=>(f2 b hb).1,w0⟩
 rintro n s3 ⟨i,σ3,H3,I3,st3,fr3,w3⟩
 rcases turn i n σ3 H3 w3 with⟨stop,qn⟩|⟨go,N,hN,step⟩
 ·refine wpAny_passesOwn hp (thn (T.done X rfl rfl rfl hc i pins s3 σ3 H3 X.xe I3 (stat fr3) st3 stop) fun r s4 ⟨hr,I4⟩=>?_)
  subst hr
  exact wpAny_execs_nil ⟨σ3,H3,I4,qn⟩
 ·refine wpAny_passesOwn hp (thn (T.item X rfl rfl rfl hc i pins s3 σ3 H3 X.xe I3 (stat fr3) st3 go) fun r s4 ⟨u,hr,h4⟩=>?_)
  subst hr
  refine wpAny_passesOwn hp (thn h4 fun _ s5 ⟨x,H5,I5,r5,y5,st5,fr5⟩=>?_)
  have I5':=I5.pinned (stat fr5) (T.obj _ _ st5)
  refine wpAny_passesOwn hp (thn (hg _ s5 σ3 H5 x u _ I5' r5 (step x H5 y5)) fun _ s6 ⟨σ6,H6,I6,q6⟩=>?_)
  refine wpAny_passesOwn hp (thn (hb _ s6 σ6 H6 _ I6 q6) fun f s7 q7=>?_)
  have again:∀{σ7:St}{H7:Hp},Inv X (pins++Mo fp s5.heap) σ7 H7 s7->N σ7 H7->∃m,m<n/\∃i σ' H',Inv X pins σ' H' s7/\tn i s7.heap/\(∀b∈fp,H' b=none)/\W i m σ' H':=fun{σ7 H7} I7 n7=>by
   obtain⟨m',hm,w7⟩:=hN σ7 H7 n7
   refine⟨m',hm,i+1,σ7,H7,I7.JS,T.keep _ _ _ st5 fun b hb o e=>(I7.pin (b,o) (List.mem_append_right _ (List.mem_append_right _ (Hx hb e)))).1,fun b hb=>?_,w7⟩
   obtain⟨o,e,d⟩:=T.obj _ _ st5 b hb
   exact(I7.pin (b,o) (List.mem_append_right _ (List.mem_append_right _ (Hx hb e)))).2.1
  cases f with
  |next=>obtain⟨σ7,H7,I7,n7⟩:=q7;exact again I7 n7
  |cont=>obtain⟨σ7,H7,I7,n7⟩:=q7;exact again I7 n7
  |brk=>obtain⟨σ7,H7,I7,q7⟩:=q7;exact⟨σ7,H7,I7.JS,q7⟩
  |ret v=>obtain⟨x7,σ7,H7,I7,r7,q7⟩:=q7;exact⟨x7,σ7,H7,I7.JS,r7,q7⟩
end
theorem Dr {K:PySem.W.Frag}{a:Addr}{xs:List V}{g:TG}{tb:TS}{D:Ends}{σ:St}{H:Hp}(Pv:Nat->St->Hp->Prop)(h0:Pv 0 σ H)(hl:∀i σ H,i<=xs.length->Pv i σ H->SqL K H a xs)
  (hs:∀i x σ H,xs[i]? =some x->Pv i σ H->g x σ H fun σ2 H2=>tb {D with nx:=Pv (i+1),ct:=Pv (i+1),bk:=D.nx} σ2 H2)(hd:∀σ H,Pv xs.length σ H->D.nx σ H):
  ∃W:Nat->Nat->St->Hp->Prop,(∃m,W 0 m σ H)/\∀i m σ H,W i m σ H->
   ((Itl K a).stop i H/\D.nx σ H)\/((Itl K a).go i H/\∃N:St->Hp->Prop,(∀σ' H',N σ' H'->∃m',m'<m/\W (i+1) m' σ' H')/\∀x H',(Itl K a).yld i H x H'->g x σ H' fun σ2 H2=>tb {D with nx:=N,ct:=N,bk:=D.nx} σ2 H2):=by
 refine⟨fun i m σ H=>m=xs.length - i/\i<=xs.length/\Pv i σ H,⟨xs.length,by simp,Nat.zero_le _,h0⟩,?_⟩
 rintro i m σ H ⟨rfl,hi,p⟩
 have q:=hl i σ H hi p
 by_cases hlt:i<xs.length
 ·refine .inr ⟨⟨xs,xs[i],q,by simp[hlt]⟩,Pv (i+1),fun σ' H' p'=>⟨xs.length - (i+1),by omega,rfl,hlt,p'⟩,fun x H' y=>?_⟩
  obtain⟨e,y⟩:=y
  subst e
  exact hs i x σ _ (y xs q) p
 ·have e:i=xs.length:=by omega
  subst e
  exact .inl ⟨⟨xs,q,Nat.le_refl _⟩,hd σ H p⟩
theorem dC {K:PySem.W.Frag}{a:Addr}{xs:List V}{g:TG}{tb:TS}{D:Ends}{σ:St}{H:Hp}(Pv:Nat->St->Hp->Prop)(h0:Pv 0 σ H)(hl:∀i σ H,i<=xs.length->Pv i σ H->SqT K H a xs)
  (hs:∀i x σ H,xs[i]? =some x->Pv i σ H->g x σ H fun σ2 H2=>tb {D with nx:=Pv (i+1),ct:=Pv (i+1),bk:=D.nx} σ2 H2)(hd:∀σ H,Pv xs.length σ H->D.nx σ H):
  ∃W:Nat->Nat->St->Hp->Prop,(∃m,W 0 m σ H)/\∀i m σ H,W i m σ H->
   ((Itt K a).stop i H/\D.nx σ H)\/((Itt K a).go i H/\∃N:St->Hp->Prop,(∀σ' H',N σ' H'->∃m',m'<m/\W (i+1) m' σ' H')/\∀x H',(Itt K a).yld i H x H'->g x σ H' fun σ2 H2=>tb {D with nx:=N,ct:=N,bk:=D.nx} σ2 H2):=by
 refine⟨fun i m σ H=>m=xs.length - i/\i<=xs.length/\Pv i σ H,⟨xs.length,by simp,Nat.zero_le _,h0⟩,?_⟩
 rintro i m σ H ⟨rfl,hi,p⟩
 have q:=hl i σ H hi p
 by_cases hlt:i<xs.length
 ·refine .inr ⟨⟨xs,xs[i],q,by simp[hlt]⟩,Pv (i+1),fun σ' H' p'=>⟨xs.length - (i+1),by omega,rfl,hlt,p'⟩,fun x H' y=>?_⟩
  obtain⟨e,y⟩:=y
  subst e
  exact hs i x σ _ (y xs q) p
 ·have e:i=xs.length:=by omega
  subst e
  exact .inl ⟨⟨xs,q,Nat.le_refl _⟩,hd σ H p⟩
theorem B6 {lo:Int}{n:Nat}{g:TG}{tb:TS}{D:Ends}{σ:St}{H:Hp}(Pv:Nat->St->Hp->Prop)(h0:Pv 0 σ H)
  (hs:∀i σ H,i<n->Pv i σ H->g (.int (lo+i)) σ H fun σ2 H2=>tb {D with nx:=Pv (i+1),ct:=Pv (i+1),bk:=D.nx} σ2 H2)(hd:∀σ H,Pv n σ H->D.nx σ H):
  ∃W:Nat->Nat->St->Hp->Prop,(∃m,W 0 m σ H)/\∀i m σ H,W i m σ H->
   ((Itr lo n).stop i H/\D.nx σ H)\/((Itr lo n).go i H/\∃N:St->Hp->Prop,(∀σ' H',N σ' H'->∃m',m'<m/\W (i+1) m' σ' H')/\∀x H',(Itr lo n).yld i H x H'->g x σ H' fun σ2 H2=>tb {D with nx:=N,ct:=N,bk:=D.nx} σ2 H2):=by
 refine⟨fun i m σ H=>m=n - i/\i<=n/\Pv i σ H,⟨n,by simp,Nat.zero_le _,h0⟩,?_⟩
 rintro i m σ H ⟨rfl,hi,p⟩
 by_cases hlt:i<n
 ·refine .inr ⟨hlt,Pv (i+1),fun σ' H' p'=>⟨n - (i+1),by omega,rfl,hlt,p'⟩,fun x H' y=>?_⟩
  obtain⟨e,y⟩:=y
  subst e y
  exact hs i σ _ hlt p
 ·have e:i=n:=by omega
  subst e
  exact .inl ⟨Nat.le_refl _,hd σ H p⟩
theorem aT (Pv:St->Hp->Prop)(μ:St->Hp->Nat)(h0:Pv σ H)
  (hs:∀σ H,Pv σ H->c σ H fun b H1=>if b=true then tb {D with nx:=fun σ' H'=>Pv σ' H'/\μ σ' H'<μ σ H,ct:=fun σ' H'=>Pv σ' H'/\μ σ' H'<μ σ H,bk:=D.nx} σ H1 else D.nx σ H1)
  (mono:∀σ H Q Q',(∀b H1,Q b H1->Q' b H1)->c σ H Q->c σ H Q'):aS c tb D σ H:=by
 refine⟨fun m σ H=>m=μ σ H/\Pv σ H,⟨_,rfl,h0⟩,?_⟩
 rintro m σ H ⟨rfl,p⟩
 refine mono σ H _ _ (fun b H1 q=>?_) (hs σ H p)
 cases b with
 |true=>exact⟨_,fun σ' H' ⟨p',l⟩=>⟨_,l,rfl,p'⟩,q⟩
 |false=>exact q
abbrev R2:=V->V->Hp->VK->Prop
def OpR (X:Cx)(f:Value->Value->Sem Value)(r:R2):Prop:=
 ∀(pins:List (Addr×Obj)) (s:Shared) (σ:St) (H:Hp) (x y:V) (v u:Value) (Q:VK),Inv X pins σ H s->RelV x v->RelV y u->r x y H Q->
  wpAny (model X.prog X.w) X.A (f v u) (EP X pins σ Q) X.xe s
def UnR (X:Cx)(f:Value->Sem Value)(r:V->Hp->VK->Prop):Prop:=
 ∀(pins:List (Addr×Obj)) (s:Shared) (σ:St) (H:Hp) (x:V) (v:Value) (Q:VK),Inv X pins σ H s->RelV x v->r x H Q->
  wpAny (model X.prog X.w) X.A (f v) (EP X pins σ Q) X.xe s
def Fm (X:Cx)(f:Value)(r:List V->Hp->VK->Prop):Prop:=
 ∀(pins:List (Addr×Obj)) (s:Shared) (σ:St) (H:Hp) (xs:List V) (us:List Value) (Q:VK),Inv X pins σ H s->Vals xs us->r xs H Q->
  wpAny (model X.prog X.w) X.A (call f us) (EP X pins σ Q) X.xe s
def tOp (r:R2)(ta tb:TE):TE:=fun σ H Q=>ta σ H fun x H1=>tb σ H1 fun y H2=>r x y H2 Q
def tUn (r:V->Hp->VK->Prop)(ta:TE):TE:=fun σ H Q=>ta σ H fun x H1=>r x H1 Q
inductive kG (C:Int->Int->Prop)(g:Int->Int->V)(x y:V)(H:Hp)(Q:VK):Prop
 |mk (i j:Int) (e1:x=.int i) (e2:y=.int j) (c:C i j) (q:Q (g i j) H):kG C g x y H Q
def rI (C:Int->Int->Prop)(g:Int->Int->V):R2:=fun x y H Q=>kG C g x y H Q
inductive kH (g:Int->Int->V)(x y:V)(H:Hp)(Q:VK):Prop
 |mk (i j:Int) (e1:x=.int i) (e2:y=.int j) (q:Q (g i j) H):kH g x y H Q
def rI0 (g:Int->Int->V):R2:=fun x y H Q=>kH g x y H Q
def rU (g:Int->V):V->Hp->VK->Prop:=fun x H Q=>∃i,x=.int i/\Q (g i) H
section
variable {X:Cx}{a b c:Expr}{ta tb tc:TE}{pos:Pos}
theorem ij (ha:PE X a ta)(hb:PE X b tb){pins:List (Addr×Obj)}{s:Shared}{σ:St}{H:Hp}{R:V->V->Hp->Prop}(I:Inv X pins σ H s)
  (h:ta σ H fun x H1=>tb σ H1 fun y H2=>R x y H2){Q:Value->Shared->Prop}{f:Value->Value->Sem Value}
  (hf:∀v u s2 x y H2,Inv X pins σ H2 s2->RelV x v->RelV y u->R x y H2->wpAny (model X.prog X.w) X.A (f v u) Q X.xe s2):
  wpAny (model X.prog X.w) X.A (eval a X.env) (fun v s₁=>wpAny (model X.prog X.w) X.A (eval b X.env) (fun u s₂=>wpAny (model X.prog X.w) X.A (f v u) Q X.xe s₂) X.xe s₁) X.xe s:=by
 refine thn (ha pins s σ H _ I h) fun v s1 ⟨x,H1,I1,r1,q1⟩=>?_
 refine thn (hb pins s1 σ H1 _ I1 q1) fun u s2 ⟨y,H2,I2,r2,q2⟩=>?_
 exact hf v u s2 x y H2 I2 r1 r2 q2
theorem AS {op:Operator}{r:R2}(ho:OpR X (binaryOp op) r)(ha:PE X a ta)(hb:PE X b tb):PE X (.BinOp a op b pos) (tOp r ta tb):=by
 intro pins s σ H Q I h
 exact wpAny_BinOp (ij ha hb I h fun v u s2 x y H2 I2 rx ry q=>ho pins s2 σ H2 x y v u Q I2 rx ry q)
theorem JT (ho:UnR X (unaryOp op) r)(ha:PE X a ta):PE X (.UnaryOp op a pos) (tUn r ta):=by
 intro pins s σ H Q I h
 exact UnaryOp_ (thn (ha pins s σ H _ I h) fun v s1 ⟨x,H1,I1,r1,q1⟩=>ho pins s1 σ H1 x v Q I1 r1 q1)
theorem opI {f:Value->Value->Sem Value}{C:Int->Int->Prop}{g:Int->Int->Int}
  (rule:∀(i j:Int) (t u:Tok) (s:Shared) (Q:Value->Shared->Prop) (E:Value->Shared->Prop),C i j->Q (.int (g i j) s.toks) {s with toks:=s.toks+1}->wpAny (model X.prog X.w) X.A (f (.int i t) (.int j u)) Q E s):
  OpR X f (rI C fun i j=>.int (g i j)):=by
 intro pins s σ H x y v u Q I rx ry h
 obtain⟨i,j,rfl,rfl,hc,q⟩:=h
 obtain⟨t,rfl⟩:=rx
 obtain⟨t',rfl⟩:=ry
 exact rule i j t t' s _ _ hc ⟨.int (g i j),H,I.tok _,⟨_,rfl⟩,q⟩
theorem ik {f:Value->Value->Sem Value}{g:Int->Int->Int}
  (rule:∀(i j:Int) (t u:Tok) (s:Shared) (Q:Value->Shared->Prop) (E:Value->Shared->Prop),Q (.int (g i j) s.toks) {s with toks:=s.toks+1}->wpAny (model X.prog X.w) X.A (f (.int i t) (.int j u)) Q E s):
  OpR X f (rI0 fun i j=>.int (g i j)):=by
 intro pins s σ H x y v u Q I rx ry h
 obtain⟨i,j,rfl,rfl,q⟩:=h
 obtain⟨t,rfl⟩:=rx
 obtain⟨t',rfl⟩:=ry
 exact rule i j t t' s _ _ ⟨.int (g i j),H,I.tok _,⟨_,rfl⟩,q⟩
theorem dD {f:Value->Value->Sem Value}{g:Int->Int->Bool}
  (rule:∀(i j:Int) (t u:Tok) (s:Shared) (Q:Value->Shared->Prop) (E:Value->Shared->Prop),Q (.bool (g i j)) s->wpAny (model X.prog X.w) X.A (f (.int i t) (.int j u)) Q E s):
  OpR X f (rI0 fun i j=>.bl (g i j)):=by
 intro pins s σ H x y v u Q I rx ry h
 obtain⟨i,j,rfl,rfl,q⟩:=h
 obtain⟨t,rfl⟩:=rx
 obtain⟨t',rfl⟩:=ry
 exact rule i j t t' s _ _ ⟨.bl (g i j),H,I,rfl,q⟩
def dE (i j:Int):Prop:=(-(2 ^ 64)<i/\i<2 ^ 64)\/(-(2 ^ 64)<j/\j<2 ^ 64)
theorem dE.ok (h:dE i j):IntMulOk i j:=by
 rcases h with⟨h1,h2⟩|⟨h1,h2⟩
 ·exact .of_left (intBits_le_64 h1 h2)
 ·exact .of_right (intBits_le_64 h1 h2)
theorem W5 (k:Nat):(0:Int)<=2 ^ k:=by
 rw[two_pow_cast]
 exact Int.natCast_nonneg _
theorem Ba:OpR X (binaryOp .Add) (rI0 fun i j=>.int (i+j)):=ik fun _ _ _ _ _ _ _ q=>add_int q
theorem Bm:OpR X (binaryOp .Sub) (rI0 fun i j=>.int (i - j)):=ik fun _ _ _ _ _ _ _ q=>sub_int q
theorem Ta:OpR X (binaryOp .Mult) (rI dE fun i j=>.int (i*j)):=opI fun _ _ _ _ _ _ _ hc q=>mul_int q hc.ok
theorem LI:OpR X (binaryOp .Mod) (rI (fun _ j=>0<j) fun i j=>.int (i % j)):=opI fun i j _ _ _ _ _ hc q=>by
 have h1:(0:Int)<j:=hc
 exact mod_int' (by omega) (by rw[Int.fmod_eq_emod_of_nonneg i (by omega)];exact q)
theorem Tb:OpR X (binaryOp .RShift) (rI (fun _ j=>0<=j) fun i j=>.int (i / 2 ^ j.toNat)):=opI fun i j _ _ _ _ _ hc q=>
 rshift_int hc (by rw[Int.fdiv_eq_ediv_of_nonneg i (W5 _)];exact q)
theorem W6:OpR X (binaryOp .BitXor) (rI0 fun i j=>.int (Builtin.bitXor i j)):=ik fun _ _ _ _ _ _ _ q=>xor_int q
theorem unI {f:Value->Sem Value}{g:Int->Int}
  (rule:∀(i:Int) (t:Tok) (s:Shared) (Q:Value->Shared->Prop) (E:Value->Shared->Prop),Q (.int (g i) s.toks) {s with toks:=s.toks+1}->wpAny (model X.prog X.w) X.A (f (.int i t)) Q E s):
  UnR X f (rU fun i=>.int (g i)):=by
 intro pins s σ H x v Q I rx h
 obtain⟨i,rfl,q⟩:=h
 obtain⟨t,rfl⟩:=rx
 exact rule i t s _ _ ⟨.int (g i),H,I.tok _,⟨_,rfl⟩,q⟩
theorem Fo:UnR X (unaryOp .USub) (rU fun i=>.int (-i)):=unI fun _ _ _ _ _ q=>neg_int q
end
def mm:V->V->Bool
 | .non,.non=>true| .non,.int _=>true| .int _,.non=>true| .non,.bl _=>true| .bl _,.non=>true| .non,.str _=>true| .str _,.non=>true
 | .int _,.int _=>true| .bl _,.bl _=>true| .str _,.str _=>true| .byt _,.byt _=>true
 | .int _,.str _=>true| .str _,.int _=>true| .bl _,.str _=>true| .str _,.bl _=>true
 |_,_=>false
def rEq:R2:=fun x y H Q=>mm x y=true/\Q (.bl (decide (x=y))) H
theorem dF:decide (V.int i=V.int j)=(i == j):=by
 rw[Bool.eq_iff_iff]
 simp
theorem il:decide (V.bl i=V.bl j)=(i == j):=by
 rw[Bool.eq_iff_iff]
 simp
theorem dG:decide (V.str i=V.str j)=(i == j):=by
 rw[Bool.eq_iff_iff]
 simp
theorem dH:decide (V.byt i=V.byt j)=(i.toList == j.toList):=by
 rw[Bool.eq_iff_iff]
 cases i
 cases j
 simp
section
variable {X:Cx}{a b c:Expr}{ta tb tc:TE}{pos:Pos}
theorem DY (I:Inv X pins σ H s)(q:Q (.bl k) H)(e:k=k'):EP X pins σ Q (.bool k') s:=by
 subst e
 exact⟨.bl k,H,I,rfl,q⟩
theorem DC:OpR X (compareOp .Eq) rEq:=by
 intro pins s σ H x y v u Q I rx ry h
 obtain⟨hs,q⟩:=h
 cases x with
 |non=>
  cases rx
  cases y with
  |non=>cases ry;exact PySem.EqNone.eq_none_none (DY I q (by simp))
  |bl j=>cases ry;exact PySem.EqNone.eq_none_bool (DY I q (by simp))
  |int j=>obtain⟨t',rfl⟩:=ry;exact PySem.EqNone.eq_none_int (DY I q (by simp))
  |str j=>obtain⟨t',rfl⟩:=ry;exact PySem.EqNone.eq_none_str (DY I q (by simp))
  |_=>exact absurd (show false=true from hs) Bool.false_ne_true
 |bl i=>
  cases rx
  cases y with
  |non=>cases ry;exact PySem.EqNone.eq_bool_none (DY I q (by simp))
  |bl j=>cases ry;exact eq_bool (DY I q il)
  |str j=>obtain⟨t',rfl⟩:=ry;exact PySem.EqMixed.eq_bool_str (DY I q (by simp))
  |_=>exact absurd (show false=true from hs) Bool.false_ne_true
 |int i=>
  obtain⟨t,rfl⟩:=rx
  cases y with
  |non=>cases ry;exact PySem.EqNone.eq_int_none (DY I q (by simp))
  |int j=>obtain⟨t',rfl⟩:=ry;exact eq_int (DY I q dF)
  |str j=>obtain⟨t',rfl⟩:=ry;exact PySem.EqMixed.eq_int_str (DY I q (by simp))
  |_=>exact absurd (show false=true from hs) Bool.false_ne_true
 |str i=>
  obtain⟨t,rfl⟩:=rx
  cases y with
  |non=>cases ry;exact PySem.EqNone.eq_str_none (DY I q (by simp))
  |bl j=>cases ry;exact PySem.EqMixed.eq_str_bool (DY I q (by simp))
  |int j=>obtain⟨t',rfl⟩:=ry;exact PySem.EqMixed.eq_str_int (DY I q (by simp))
  |str j=>obtain⟨t',rfl⟩:=ry;exact eq_str (DY I q dG)
  |_=>exact absurd (show false=true from hs) Bool.false_ne_true
 |byt i=>
  obtain⟨t,rfl⟩:=rx
  cases y with
  |byt j=>obtain⟨t',rfl⟩:=ry;exact PySem.W.eq_bytes (DY I q dH)
  |_=>exact absurd (show false=true from hs) Bool.false_ne_true
 |_=>cases y <;> exact absurd (show false=true from hs) Bool.false_ne_true
theorem X9:OpR X (compareOp .Lt) (rI0 fun i j=>.bl (decide (i<j))):=dD fun _ _ _ _ _ _ _ q=>lt_int q
theorem EK:OpR X (compareOp .LtE) (rI0 fun i j=>.bl (decide (i<=j))):=dD fun _ _ _ _ _ _ _ q=>le_int q
theorem Ih:OpR X (compareOp .Gt) (rI0 fun i j=>.bl (decide (j<i))):=dD fun _ _ _ _ _ _ _ q=>gt_int q
theorem fT:OpR X (compareOp .GtE) (rI0 fun i j=>.bl (decide (j<=i))):=dD fun _ _ _ _ _ _ _ q=>ge_int q
theorem Am (b:Expr)(h:op≠.In:=by decide)(h2:op≠.NotIn:=by decide):behindInMarks op b=false:=by
 have e1:(op == CmpOp.In)=false:=by cases op <;> first|rfl|exact absurd rfl h
 have e2:(op == CmpOp.NotIn)=false:=by cases op <;> first|rfl|exact absurd rfl h2
 cases b <;> simp[behindInMarks,e1,e2]
theorem Lq (ho:OpR X (compareOp op) r)(ha:PE X a ta)(hb:PE X b tb)(hm:behindInMarks op b=false):PE X (.Compare a [op] [b] pos) (tOp r ta tb):=by
 intro pins s σ H Q I h
 exact wpAny_Compare1 (ij ha hb I h fun v u s2 x y H2 I2 rx ry q=>ho pins s2 σ H2 x y v u Q I2 rx ry q) hm
def Ii (t:TE):TT:=fun σ H Q=>t σ H fun x H'=>BlI x H' Q
theorem Ag (ho:OpR X (compareOp op) r)(ha:PE X a ta)(hb:PE X b tb)(hm:behindInMarks op b=false):PT X (.Compare a [op] [b] pos) (Ii (tOp r ta tb)):=by
 intro pins s σ H Q I h
 refine wpAny_isTrue_Compare1 (thn (ha pins s σ H _ I h) fun v s1 ⟨x,H1,I1,r1,q1⟩=>thn (hb pins s1 σ H1 _ I1 q1) fun u s2 ⟨y,H2,I2,r2,q2⟩=>
  thn (ho pins s2 σ H2 x y v u _ I2 r1 r2 q2) fun c s3 ⟨z,H3,I3,r3,k,e,q3⟩=>?_) hm
 subst e
 cases r3
 exact wpAny_truthy_bool ⟨H3,I3,q3⟩
def W7 (r r':R2)(ta tb tc:TE):TE:=fun σ H Q=>ta σ H fun x H1=>tb σ H1 fun y H2=>r x y H2 fun z H3=>∃k,z=.bl k/\
 (if k=true then tc σ H3 fun w' H4=>r' y w' H4 Q else Q (.bl false) H3)
theorem Ew (ho:OpR X (compareOp op) r)(ho':OpR X (compareOp op') r')(ha:PE X a ta)(hb:PE X b tb)(hc:PE X c tc)
  (hm:lastMarks [op,op'] [b,c]=false:=by with_unfolding_all rfl):PT X (.Compare a [op,op'] [b,c] pos) (Ii (W7 r r' ta tb tc)):=by
 intro pins s σ H Q I h
 refine isTrue_chain (thn (ha pins s σ H _ I h) fun v s1 ⟨x,H1,I1,r1,q1⟩=>test_link (thn (hb pins s1 σ H1 _ I1 q1) fun u s2 ⟨y,H2,I2,r2,q2⟩=>
  thn (ho pins s2 σ H2 x y v u _ I2 r1 r2 q2) fun d s3 ⟨z,H3,I3,r3,k,e,q3⟩=>?_)) hm
 subst e
 cases r3
 refine wpAny_truthy_bool ?_
 cases k with
 |false=>
  obtain⟨k',e',q'⟩:=q3
  cases e'
  exact ite_ff ⟨H3,I3,q'⟩
 |true=>
  refine ite_tt (test_last (thn (hc pins s3 σ H3 _ I3 q3) fun w' s4 ⟨z',H4,I4,r4,q4⟩=>thn (ho' pins s4 σ H4 y z' u w' _ I4 r2 r4 q4) fun d' s5 ⟨z2,H5,I5,r5,k2,e2,q5⟩=>?_))
  subst e2
  cases r5
  exact wpAny_truthy_bool ⟨H5,I5,q5⟩
theorem Td:(sizeLine:Nat)<2 ^ 63:=by rw[sizeLine_eq];decide
theorem vals1 (r:Vals [x] us):∃u,us=[u]/\RelV x u:=by
 cases r with
 |cons r1 r2=>cases r2;exact⟨_,rfl,r1⟩
theorem vals2 (r:Vals [x,y] us):∃u w',us=[u,w']/\RelV x u/\RelV y w':=by
 cases r with
 |cons r1 r2=>
  cases r2 with
  |cons r3 r4=>cases r4;exact⟨_,_,rfl,r1,r3⟩
theorem aU:Fm X (.builtin "abs") (fun xs H Q=>∃i,xs=[.int i]/\Q (.int (if i<0 then -i else i)) H):=by
 intro pins s σ H xs us Q I r h
 obtain⟨i,rfl,q⟩:=h
 obtain⟨u,rfl,t,rfl⟩:=vals1 r
 exact call_abs_int fun u tk=>⟨.int (if i<0 then -i else i),H,I.tok _,⟨_,rfl⟩,q⟩
theorem KO (hc:X.calm=true):Fm X (.builtin "max") (fun xs H Q=>∃i j,xs=[.int i,.int j]/\Q (.int (if j>i then j else i)) H):=by
 intro pins s σ H xs us Q I r h
 obtain⟨i,j,rfl,q⟩:=h
 obtain⟨u,w',rfl,⟨t,rfl⟩,⟨t',rfl⟩⟩:=vals2 r
 refine max_two_ints (I.ok.hd hc) fun h' tk k=>⟨_,H,I.kept k,?_,q⟩
 by_cases hj:j>i
 ·rw[if_pos hj,if_pos hj];exact⟨_,rfl⟩
 ·rw[if_neg hj,if_neg hj];exact⟨_,rfl⟩
theorem Y9 (hc:X.calm=true):Fm X (.builtin "min") (fun xs H Q=>∃i j,xs=[.int i,.int j]/\Q (.int (if j<i then j else i)) H):=by
 intro pins s σ H xs us Q I r h
 obtain⟨i,j,rfl,q⟩:=h
 obtain⟨u,w',rfl,⟨t,rfl⟩,⟨t',rfl⟩⟩:=vals2 r
 refine min_two_ints (I.ok.hd hc) fun h' tk k=>⟨_,H,I.kept k,?_,q⟩
 by_cases hj:j<i
 ·rw[if_pos hj,if_pos hj];exact⟨_,rfl⟩
 ·rw[if_neg hj,if_neg hj];exact⟨_,rfl⟩
theorem Tg:Fm X (.type "str") (fun xs H Q=>∃i,xs=[.int i]/\i.natAbs.log2<1920/\Q (.str (toString i)) H):=by
 intro pins s σ H xs us Q I r h
 obtain⟨i,rfl,hz,q⟩:=h
 obtain⟨u,rfl,t,rfl⟩:=vals1 r
 exact PySem.P.str_of_int hz ⟨.str _,H,I.tok _,⟨_,rfl⟩,q⟩
theorem O4:Fm X (.builtin "ord") (fun xs H Q=>∃x,xs=[.str x]/\x.length=1/\Q (.int (x.cps.getD 0 0:Nat)) H):=by
 intro pins s σ H xs us Q I r h
 obtain⟨x,rfl,hz,q⟩:=h
 obtain⟨u,rfl,t,rfl⟩:=vals1 r
 exact ord_of_one hz ⟨.int _,H,I.tok _,⟨_,rfl⟩,q⟩
end
structure W8 (h:Heap)(x dx C:Addr)(mA:Str->Option Value):Prop where
 obj:h.get? x=some (PySem.W.instObj C dx)
 ns:h.Ns1 dx mA
 ne:dx≠x
theorem ZA {h:Heap}{dx:Addr}{mA:Str->Option Value}(n:h.Ns1 dx mA):∃od,h.get? dx=some od/\∀name,PySem.W.lookIn name od=some (mA name):=by
 obtain⟨o,es,ep,ho,hd,hk,_,hm⟩:=n
 refine⟨o,ho,fun name=>?_⟩
 have e:=hm name
 unfold nsFind findBy at e
 rw[<-Array.find?_toList]at e
 unfold PySem.W.lookIn
 rw[hd]
 dsimp only
 split
 ·rename_i y q
  rw[q]at e
  exact congrArg some e
 ·rename_i q
  rw[q]at e
  have a:es.toList.any (·.refKey)=false:=by
   rw[List.any_eq_false]
   intro y hy
   obtain⟨z,t,hkey⟩:=hk y (Array.mem_toList_iff.mp hy)
   simp[DictEntry.refKey,hkey]
  have a':¬es.toList.any (·.refKey)=true:=by rw[a];exact Bool.false_ne_true
  rw[if_neg a']
  exact congrArg some e
theorem W8.look (I:W8 h x dx C mA):∃od,PySem.W.InstAt h x (PySem.W.instObj C dx) C (some od)/\∀name,PySem.W.lookIn name od=some (mA name):=
 let⟨od,ho,hl⟩:=ZA I.ns
 ⟨od,⟨I.obj,rfl,rfl,ho⟩,hl⟩
section
variable {prog:Program}{w:World}{A:Around}{E:Value->Shared->Prop}{s:Shared}{K:PySem.W.Frag}{x dx C f:Addr}{mA:Str->Option Value}{name:Str}{v:Value}
theorem get_map (X:K.In s.heap)(I:W8 s.heap x dx C mA)(hg:PySem.W.plainGet K C name=true)(hh:PySem.W.hasDictIn K C=true)
  (ha:PySem.W.findIn K (.ref C) name=some none)(hv:mA name=some v)(hv':PySem.W.handedIn v=true)(h:Q v {s with toks:=s.toks+1}):
  wpAny (model prog w) A (getAttr (.ref x) name expr) Q E s:=by
 obtain⟨od,J,hl⟩:=I.look
 exact PySem.W.get_value X J (PySem.W.plainGet_of hg).1 (PySem.W.findObj_own hh ha rfl (by rw[hl,hv])) hv' h
theorem aV (X:K.In s.heap)(I:W8 s.heap x dx C mA)(hg:PySem.W.plainGet K C name=true)
  (hf:PySem.W.findIn K (.ref C) name=some (some (.ref f)))(ht:PySem.W.isFn K (.ref f)=true)(hv:mA name=none)(h:Q (.ref f,[.ref x]) s):
  wpAny (model prog w) A (getMethod (.ref x) name pl) Q E s:=by
 obtain⟨od,J,hl⟩:=I.look
 exact PySem.W.method_fn X J (PySem.W.plainGet_of hg).1 (PySem.W.plainGet_of hg).2 hf (beq_iff_eq.mp ht) (by show(PySem.W.lookIn name od).map (·.isSome)=some false;rw[hl,hv];rfl) h
theorem dI (X:K.In s.heap)(I:W8 s.heap x dx C mA)
  (hs:PySem.W.findIn K (.ref C) "__setattr__"=some (some (.builtin "object.__setattr__")))(hp:PySem.W.plainOver K C=true)(ht:PySem.W.takerIn K C name=some none)(hh:PySem.W.hasDictIn K C=true)
  (hw:PySem.Within mA ns)(hsz:ns.length<=sizeLine)
  (h:∀h',W8 h' x dx C (fun y=>if y=name then some v else mA y)->Heap.SameBut dx s.heap h'->Q () {s with heap:=h',toks:=s.toks+2}):
  wpAny (model prog w) A (setAttr (.ref x) name v) Q E s:=by
 obtain⟨od,J,hl⟩:=I.look
 refine PySem.W.set_plain X J hs (PySem.W.osa_open (s:={s with toks:=s.toks+1}) (r:=none) X J hp ht fun b=>?_)
 obtain⟨cd,hc,hd'⟩:=PySem.W.any_some hh
 have hx:s.heap.get? x=some ⟨.ref C,some dx,.plain,#[]⟩:=I.obj
 refine wpAny_bind (wpAny_pure (wpAny_bind (wpAny_bind (wpAny_loadPart hx (wpAny_bind (PySem.W.Looks.here (s:={s with toks:=s.toks+1}) (PySem.W.looks_clsIn X hc) ?_))))))
 rw[hd']
 refine wpAny_pure (a:=some dx) (wpAny_bind (wpAny_pure (wpAny_bind ?_)))
 refine wpAny_nsSet1 (s:={s with toks:=s.toks+1}) I.ns fun h' hn2 hs2=>?_
 obtain⟨oD,esD,epD,hoD,hdD,hcD⟩:=hn2.count (PySem.Within.cons name v hw)
 refine wpAny_bind (wpAny_lookBehind hoD (by rw[hdD];exact pastItsLine_dict (Nat.le_trans hcD (by rw[List.length_cons];omega))) ?_)
 exact wpAny_pure (h _ ⟨(hs2.2 _ (Ne.symm I.ne)).trans I.obj,hn2,I.ne⟩ hs2)
theorem aW (X:K.In s.heap)(hm:PySem.W.makesIn K C=true)
  (hi:PySem.W.findIn K (.ref C) "__init__"=some (some (.ref f)))(hf:PySem.W.typeIn K (.ref f)=some (.type "function"))
  (h:codeAny (model prog w) (A.under (.builtin "type.__call__" ⟨.ref C::vs,kw⟩)) (.call (.ref f) ⟨.ref (s.heap.objs.size+1)::vs,kw⟩) (PySem.W.InitBack (s.heap.objs.size+1) R)
   {s with heap:=(s.heap.push PySem.W.emptyDict).push (PySem.W.instObj C s.heap.objs.size)}):
  codeAny (model prog w) A (.call (.ref C) ⟨vs,kw⟩) R s:=by
 obtain⟨hh,g,d,t,os⟩:=s
 exact PySem.W.make_core (PySem.W.makes_of X hm) (PySem.W.looks_findIn X hi) (fun self=>PySem.W.bind_fn X self hf) (.inl rfl) h
end
def ER (f:Str)(v:V):List (Str×V)->List (Str×V)
 |[]=>[(f,v)]
 |(g,x)::r=>if g=f then(g,v)::r else(g,x)::ER f v r
theorem NS (f g:Str)(v:V):∀fs:List (Str×V),(ER f v fs).lookup g=if g=f then some v else fs.lookup g
 |[]=>by
  show List.lookup g [(f,v)]=_
  by_cases h:g=f
  ·have hb:(g == f)=true:=beq_iff_eq.mpr h
   simp only[List.lookup,hb,if_pos h]
  ·have hb:(g == f)=false:=beq_eq_false_iff_ne.mpr h
   simp only[List.lookup,hb,if_neg h]
 |(k,x)::r=>by
  have ih:=NS f g v r
  rw[show ER f v ((k,x)::r)=(if k=f then(k,v)::r else(k,x)::ER f v r)from rfl]
  by_cases hk:k=f
  ·rw[if_pos hk]
   by_cases h:g=k
   ·have hb:(g == k)=true:=beq_iff_eq.mpr h
    simp only[List.lookup,hb,if_pos (h.trans hk)]
   ·have hb:(g == k)=false:=beq_eq_false_iff_ne.mpr h
    simp only[List.lookup,hb,if_neg (fun e:g=f=>h (e.trans hk.symm))]
  ·rw[if_neg hk]
   by_cases h:g=k
   ·have hb:(g == k)=true:=beq_iff_eq.mpr h
    simp only[List.lookup,hb,if_neg (fun e:g=f=>hk (h.symm.trans e))]
   ·have hb:(g == k)=false:=beq_eq_false_iff_ne.mpr h
    simp only[List.lookup,hb]
    exact ih
theorem Mp (f:Str)(v:V):∀fs:List (Str×V),f∈(ER f v fs).map (·.1)/\∀g,g∈fs.map (·.1)->g∈(ER f v fs).map (·.1)
 |[]=>⟨by simp[ER],fun g h=>by simp at h⟩
 |(k,x)::r=>by
  obtain⟨i1,i2⟩:=Mp f v r
  rw[show ER f v ((k,x)::r)=(if k=f then(k,v)::r else(k,x)::ER f v r)from rfl]
  by_cases hk:k=f
  ·rw[if_pos hk]
   subst hk
   exact⟨by simp,fun g h=>by simpa using h⟩
  ·rw[if_neg hk]
   refine⟨?_,fun g h=>?_⟩
   ·rw[List.map_cons]
    exact List.mem_cons_of_mem _ i1
   ·rw[List.map_cons]at h ⊢
    rcases List.mem_cons.mp h with e|e
    ·exact List.mem_cons.mpr (.inl e)
    ·exact List.mem_cons_of_mem _ (i2 g e)
theorem NU (f:Str)(v:V):∀fs:List (Str×V),(ER f v fs).length<=fs.length+1
 |[]=>by simp[ER]
 |(k,x)::r=>by
  have ih:=NU f v r
  rw[show ER f v ((k,x)::r)=(if k=f then(k,v)::r else(k,x)::ER f v r)from rfl]
  by_cases hk:k=f
  ·rw[if_pos hk,List.length_cons,List.length_cons];omega
  ·rw[if_neg hk,List.length_cons,List.length_cons];omega
theorem Iq.some_of (r:Iq (some v) o):∃u,o=some u/\RelV v u:=by
 cases o with
 |none=>exact(show False from r).elim
 |some u=>exact⟨u,rfl,r⟩
theorem Iq.none_of (r:Iq none o):o=none:=by
 cases o with
 |none=>rfl
 |some u=>exact(show False from r).elim
theorem ZC (r:RelV v u):PySem.W.handedIn u=true:=by
 cases v with
 |non=>cases(show u=Value.none from r);rfl
 |bl b=>cases(show u=Value.bool b from r);rfl
 |int i=>obtain⟨t,e⟩:=(show ∃t,u=Value.int i t from r);cases e;rfl
 |str x=>obtain⟨t,e⟩:=(show ∃t,u=Value.str x t from r);cases e;rfl
 |byt b=>obtain⟨t,e⟩:=(show ∃t,u=Value.bytes b t from r);cases e;rfl
 |flt b=>obtain⟨t,e⟩:=(show ∃t,u=Value.float b t from r);cases e;rfl
 |ref a=>cases(show u=Value.ref a from r);rfl
 |ty n=>cases(show u=Value.type n from r);rfl
section
variable {P:Program}{w:World}{H H':Hp}{h h':Heap}{a C dx:Addr}{fs fs':List (Str×V)}
theorem Th (hok:HOk P w H h)(e:H a=some (.ins C dx fs)):∃mA,W8 h a dx C mA/\(∀f,Iq (fs.lookup f) (mA f))/\PySem.Within mA (fs.map (·.1))/\fs.length<=1000/\H dx=some (.own a):=by
 obtain⟨d,z,ne,ob,mA,n,r,q⟩:=(show Bk P w H h a (.ins C dx fs)from hok a _ e)
 exact⟨mA,⟨ob,n,ne⟩,r,q,z,d⟩
end
structure Cls (K:PySem.W.Frag)(C:Addr):Prop where
 pg:PySem.W.plainGet K C Str.empty=true
 hd:PySem.W.hasDictIn K C=true
 po:PySem.W.plainOver K C=true
 sa:PySem.W.findIn K (.ref C) "__setattr__"=some (some (.builtin "object.__setattr__"))
theorem Cls.get {K:PySem.W.Frag}{C:Addr}(c:Cls K C)(f:Str):PySem.W.plainGet K C f=true:=c.pg
def A4 (K:PySem.W.Frag)(C:Addr)(f:Str):Prop:=PySem.W.findIn K (.ref C) f=some none
theorem A4.kI {K:PySem.W.Frag}{C:Addr}{f:Str}(n:A4 K C f):PySem.W.takerIn K C f=some none:=by
 unfold PySem.W.takerIn
 rw[show PySem.W.findIn K (.ref C) f=some none from n]
 rfl
structure Meth (K:PySem.W.Frag)(C:Addr)(m:Str)(f:Addr):Prop where
 at_:PySem.W.findIn K (.ref C) m=some (some (.ref f))
 fn:PySem.W.isFn K (.ref f)=true
 kp:PySem.W.keepIn K (.ref f)=true
section
variable {X:Cx}{pins:List (Addr×Obj)}{σ:St}{H:Hp}{s:Shared}{a C dx:Addr}{fs:List (Str×V)}{f:Str}{v:V}{A:Around}{E:Value->Shared->Prop}
theorem W9 (I:Inv X pins σ H s)(e:H a=some (.ins C dx fs))(c:Cls X.K C)(n:A4 X.K C f)(l:fs.lookup f=some v)
  (h:∀u s',Inv X pins σ H s'->RelV v u->Q u s'):wpAny (model X.prog X.w) A (getAttr (.ref a) f b) Q E s:=by
 obtain⟨mA,O,r,_,_,_⟩:=Th I.hok e
 obtain⟨u,hu,ru⟩:=Iq.some_of (v:=v) (o:=mA f) (by rw[<-l];exact r f)
 exact get_map I.kIn O (c.get f) c.hd n hu (ZC ru) (h u _ (I.tok _) ru)
theorem LJ (I:Inv X pins σ H s)(e:H a=some (.ins C dx fs))(c:Cls X.K C)(k:Meth X.K C m g)(l:fs.lookup m=none)
  (h:Q (.ref g,[.ref a]) s):wpAny (model X.prog X.w) A (getMethod (.ref a) m pl) Q E s:=by
 obtain⟨mA,O,r,_,_,_⟩:=Th I.hok e
 have hn:mA m=none:=Iq.none_of (by rw[<-l];exact r m)
 exact aV I.kIn O (c.get m) k.at_ k.fn hn h
theorem XA (I:Inv X pins σ H s)(e:H a=some (.ins C dx fs))(c:Cls X.K C)(n:A4 X.K C f)(hl:fs.length<1000)(ry:RelV y u)
  (h:∀s',Inv X pins σ (upd H a (.ins C dx (ER f y fs))) s'->Q () s'):wpAny (model X.prog X.w) A (setAttr (.ref a) f u) Q E s:=by
 obtain⟨mA,O,r,wi,_,ho⟩:=Th I.hok e
 have hz:(fs.map (·.1)).length<=sizeLine:=by rw[List.length_map,sizeLine_eq];omega
 refine dI I.kIn O c.sa c.po n.kI c.hd wi hz fun h' O' sb=>h _ ?_
 have hd:∃o,h'.get? dx=some o:=let⟨o,_,_,e',_⟩:=O'.ns;⟨o,e'⟩
 refine I.write (x:=a) (e:=dx) (by rw[e];exact True.intro) (.inr ho) (fun b q hb z=>(sb.2 b hb).trans z) hd ?_
 refine⟨by rw[AI O.ne];exact ho,?_,O.ne,O'.obj,_,O'.ns,fun g=>?_,fun g hg=>?_⟩
 ·have:=NU f y fs;omega
 ·show Iq ((ER f y fs).lookup g) (if g=f then some u else mA g)
  rw[NS]
  by_cases q:g=f
  ·rw[if_pos q,if_pos q];exact ry
  ·rw[if_neg q,if_neg q];exact r g
 ·by_cases q:g=f
  ·rw[q];exact(Mp f y fs).1
  ·refine(Mp f y fs).2 g (wi g fun z=>hg ?_)
   show(if g=f then some u else mA g)=none
   rw[if_neg q];exact z
theorem Inv.made (I:Inv X pins σ H s):Inv X pins σ (upd (upd H s.heap.objs.size (.own (s.heap.objs.size+1))) (s.heap.objs.size+1) (.ins C s.heap.objs.size []))
  {s with heap:=(s.heap.push PySem.W.emptyDict).push (PySem.W.instObj C s.heap.objs.size)}:=by
 have e1:(s.heap.push PySem.W.emptyDict).get? s.heap.objs.size=some PySem.W.emptyDict:=Heap.get?_push_size s.heap rfl
 have e2:((s.heap.push PySem.W.emptyDict).push (PySem.W.instObj C s.heap.objs.size)).get? (s.heap.objs.size+1)=some (PySem.W.instObj C s.heap.objs.size):=by
  have:=Heap.get?_push_size (s.heap.push PySem.W.emptyDict) (o:=PySem.W.instObj C s.heap.objs.size) rfl
  rwa [Heap.size_push]at this
 have e3:(s.heap.push PySem.W.emptyDict).Ns s.heap.objs.size (fun _=>none):=⟨PySem.W.emptyDict,#[],_,e1,rfl,(fun e he=>absurd he (by simp)),fun _=>rfl⟩
 have I1:=I.laid (a:=s.heap.objs.size) (o:=.own (s.heap.objs.size+1)) (h':=s.heap.push PySem.W.emptyDict) (t':=s.toks) (fun b u q=>Heap.get?_push_of_some _ q) (Nat.le_refl _) ⟨_,e1⟩
 refine I1.laid (a:=s.heap.objs.size+1) (o:=.ins C s.heap.objs.size []) (t':=s.toks) (fun b u q=>Heap.get?_push_of_some _ q) (Nat.le_of_eq (Heap.size_push _ _)) ?_
 have ne:s.heap.objs.size≠s.heap.objs.size+1:=Nat.ne_of_lt (Nat.lt_succ_self _)
 refine⟨by rw[AI ne,AB],Nat.zero_le _,ne,e2,fun _=>none,(Heap.Ns1.of_empty e3).at fun o q=>Heap.get?_push_of_some _ q,fun _=>True.intro,fun y hy=>absurd rfl hy⟩
theorem dJ (hb:attributeBase e f env (eval e env)=eval e env)
  (h:wpAny (model prog w) A (eval e env) (fun o s₁=>wpAny (model prog w) A (getAttr o f true) Q E s₁) E s):wpAny (model prog w) A (eval (.Attribute e f pos) env) Q E s:=
 Attribute_any_ h (by rw[arm_eval_Attribute,hb])
end
inductive kJ (K:PySem.W.Frag)(f:Str)(x:V)(H1:Hp)(Q:VK):Prop
 |mk (a C dx:Addr) (fs:List (Str×V)) (v:V) (e:x=.ref a) (h:H1 a=some (.ins C dx fs)) (c:Cls K C) (n:A4 K C f) (l:fs.lookup f=some v) (q:Q v H1):kJ K f x H1 Q
def Bq (K:PySem.W.Frag)(ta:TE)(f:Str):TE:=fun σ H Q=>ta σ H fun x H1=>kJ K f x H1 Q
inductive fZ (K:PySem.W.Frag)(f:Str)(y x:V)(H2:Hp)(Q:Hp->Prop):Prop
 |mk (a C dx:Addr) (fs:List (Str×V)) (e:x=.ref a) (h:H2 a=some (.ins C dx fs)) (c:Cls K C) (n:A4 K C f) (l:fs.length<1000) (q:Q (upd H2 a (.ins C dx (ER f y fs)))):fZ K f y x H2 Q
def kK (K:PySem.W.Frag)(ta tv:TE)(f:Str):TS:=fun D σ H=>tv σ H fun y H1=>ta σ H1 fun x H2=>fZ K f y x H2 (D.nx σ)
section
variable {X:Cx}{o e value:Expr}{f:Str}{pos pos' tpos:Pos}{ta tv:TE}
theorem AJ (he:PE X e ta)(hb:attributeBase e f X.env (eval e X.env)=eval e X.env):PE X (.Attribute e f pos) (Bq X.K ta f):=by
 intro pins s σ H Q I h
 refine dJ hb (thn (he pins s σ H _ I h) fun u s1 ⟨x,H1,I1,rx,a,C,dx,fs,v,ex,ea,c,n,l,q⟩=>?_)
 subst ex
 obtain rfl:u=Value.ref a:=rx
 exact W9 I1 ea c n l fun u' s2 I2 ru=>⟨v,H1,I2,ru,q⟩
theorem BH (ha:PE X o ta)(hv:PE X value tv)(hs:swapsWith value (some (.Attribute o f pos')) pos.line X.env=pure false):PS X (.Assign [.Attribute o f pos'] value pos) (kK X.K ta tv f):=by
 intro pins s σ H D I h
 refine plainObj_wpAny_Assign_Attribute (thn (hv pins s σ H _ I h) fun u s1 ⟨y,H1,I1,ry,q⟩=>thn (ha pins s1 σ H1 _ I1 q) fun ov s2 ⟨x,H2,I2,rx,a,C,dx,fs,ex,ea,c,n,l,q2⟩=>?_) hs
 subst ex
 obtain rfl:ov=Value.ref a:=rx
 exact XA I2 ea c n l ry fun s3 I3=>⟨σ,_,I3,q2⟩
theorem fb (he:PE X e te)(I:Inv X pins σ H s)
  (h:te σ H fun x H1=>∃a C dx fs g,x=.ref a/\H1 a=some (.ins C dx fs)/\Cls X.K C/\Meth X.K C m g/\fs.lookup m=none/\
   ∀s1,Inv X pins σ H1 s1->wpAny (model X.prog X.w) X.A (callWith pos (.ref g) [.ref a] (backTo pos (starEach args X.env)) (backToKw pos (keywordEach [] X.env))) Q X.xe s1)
  (ht:eval (.Call (.Attribute e m apos) args [] pos) X.env=(do
   let ov <-eval e X.env
   standAt apos.atName
   let(f,first) <-holding [ov] (getMethod ov m pl)
   callWith pos f first (backTo pos (starEach args X.env)) (backToKw pos (keywordEach [] X.env)))):
  wpAny (model X.prog X.w) X.A (eval (.Call (.Attribute e m apos) args [] pos) X.env) Q X.xe s:=by
 refine PySem.W.methodCall_KW (pl:=pl) (thn (he pins s σ H _ I h) fun u s1 ⟨x,H1,I1,rx,a,C,dx,fs,g,ex,ea,c,k,l,q⟩=>?_) ht
 subst ex
 obtain rfl:u=Value.ref a:=rx
 exact LJ I1 ea c k l (q s1 I1)
end
section
variable {X:Cx}{pins:List (Addr×Obj)}{σ:St}{H:Hp}{s:Shared}{A:Around}{E:Value->Shared->Prop}{Q:Value->Shared->Prop}{c:Value}{b:Bool}
end
structure C1 (k:Nat)(A:Around):Prop where
 hd:A.handled=none
 dp:A.depth+3*k+5<recursionLimit
 un:A.units+16*k+200<cLine
theorem C1.mono (r:C1 k A)(h:j<=k):C1 j A:=⟨r.hd,by have:=r.dp;omega,by have:=r.un;omega⟩
theorem C1.deeper (r:C1 (k+1) A)(env:Env):C1 k (A.deeper env):=
 ⟨r.hd,by have:=r.dp;show A.depth+1+3*k+5<_;omega,by have:=r.un;show A.units+3+16*k+200<_;omega⟩
theorem XB {A:Around}{C:Addr}{us:List Value}{kw:List (Str×Value)}:(A.under (.builtin "type.__call__" ⟨.ref C::us,kw⟩)).depth=A.depth+1:=by
 first|rfl|simp[Around.under,Code.weight,Code.isCreation,Code.isGuard,Code.isCaller,Code.frames,Code.isFrame,guardIds]
theorem XC {A:Around}{C:Addr}{us:List Value}{kw:List (Str×Value)}:(A.under (.builtin "type.__call__" ⟨.ref C::us,kw⟩)).units=A.units+1:=by
 first|rfl|simp[Around.under,Code.cUnits,Code.frames,Code.isFrame]
theorem C1.make (r:C1 (k+1) A)(C:Addr)(us:List Value)(kw:List (Str×Value)):C1 k (A.under (.builtin "type.__call__" ⟨.ref C::us,kw⟩)):=
 ⟨r.hd,by have:=r.dp;rw[XB];omega,by have:=r.un;rw[XC];omega⟩
theorem C1.depth (r:C1 k A):A.depth<recursionLimit:=by have:=r.dp;omega
theorem C1.units (r:C1 k A):A.units+64<cLine:=by have:=r.un;omega
def DT:TA:=fun _ H Q=>Q [] H
def CG (ta:TE)(tr:TA):TA:=fun σ H Q=>ta σ H fun x H1=>tr σ H1 fun xs H2=>Q (x::xs) H2
section
variable {X:Cx}{e:Expr}{es:List Expr}{te:TE}{t:TA}{pos:Pos}
theorem AE:PA X [] DT:=fun _ _ _ _ H Q I h=>Calls.spliced_nil ⟨[],H,I,.nil,h⟩
theorem AA (ha:PE X e te)(hr:PA X es t)(hs:starEach (e::es) X.env=(false,eval e X.env)::starEach es X.env:=by rfl):PA X (e::es) (CG te t):=by
 intro pos pins s σ H Q I h
 rw[hs]
 show wpAny _ _ (spliced ((false,eval e X.env)::backTo pos (starEach es X.env))) _ _ s
 refine Calls.spliced_cons (thn (ha pins s σ H _ I h) fun u s1 ⟨x,H1,I1,r1,q1⟩=>?_)
 exact thn (hr pos pins s1 σ H1 _ I1 q1) fun us s2 ⟨xs,H2,I2,r2,q2⟩=>⟨x::xs,H2,I2,.cons r1 r2,q2⟩
def ip (t:TA):TE:=fun σ H Q=>t σ H fun xs H1=>xs.length<=sizeLine/\∀p,H1 p=none->Q (.ref p) (upd H1 p (.tup xs))
def Z7 (t:TA):TE:=fun σ H Q=>t σ H fun xs H1=>xs.length<=sizeLine/\∀p,H1 p=none->Q (.ref p) (upd H1 p (.lst xs))
theorem LK {x1}(h:PA X es t):PE X (.Tuple es x1 pos) (ip t):=by
 intro pins s σ H Q I hq
 refine wpAny_Tuple_spliced (thn (h pos pins s σ H _ I hq) fun us s1 ⟨xs,H1,I1,r,z,q⟩=>⟨by rw[<-r.length];exact z,?_⟩)
 have hf:H1 s1.heap.objs.size=none:=I1.hok.fresh (Nat.le_refl _)
 refine⟨.ref s1.heap.objs.size,upd H1 s1.heap.objs.size (.tup xs),I1.laid (t':=s1.toks) (fun b u e=>Heap.get?_push_of_some _ e) (Nat.le_refl _) ?_,rfl,q _ hf⟩
 exact⟨z,us,r,⟨_,Heap.get?_push_size _ rfl,rfl,_,rfl⟩⟩
theorem An (h:PA X es t):PE X (.List es pos) (Z7 t):=by
 intro pins s σ H Q I hq
 refine wpAny_List_spliced (thn (h pos pins s σ H _ I hq) fun us s1 ⟨xs,H1,I1,r,z,q⟩=>⟨by rw[<-r.length];exact z,?_⟩)
 have hf:H1 s1.heap.objs.size=none:=I1.hok.fresh (Nat.le_refl _)
 refine⟨.ref s1.heap.objs.size,upd H1 s1.heap.objs.size (.lst xs),I1.laid (t':=s1.toks) (fun b u e=>Heap.get?_push_of_some _ e) (Nat.le_refl _) ?_,rfl,q _ hf⟩
 exact⟨z,us,0,r,Heap.get?_push_size _ rfl⟩
end
abbrev Sp:=List V->Hp->VK->XK->Prop
abbrev CXT:=List Env->Hp->Shared->XK->Value->Shared->Prop
structure XD (P:Program)(w:World)(K:PySem.W.Frag)(mg:Str->Option Value)(base:Heap)(A:Around)(outer:List Env)(s:Shared)(H:Hp):Prop where
 frames:A.frames=some outer
 mod:Mod K mg base
 bs:∀b o,base.get? b=some o->s.heap.get? b=some o/\H b=none
 bsz:base.objs.size<=s.heap.objs.size
 JJ:s.heap.FunFrames base outer
 frf:∀b∈frs outer,H b=none
 hok:HOk P w H s.heap
 bare:AllBare s.gens
def CE (outer:List Env)(P:Program)(w:World)(H:Hp)(s:Shared)(Q:VK)(u:Value)(s':Shared):Prop:=
 ∃v H',s'.os=s.os/\AllBare s'.gens/\Un (frs outer) [] H H' s.heap s'.heap/\HOk P w H' s'.heap/\RelV v u/\Q v H'
def CR (CX:CXT)(outer:List Env)(P:Program)(w:World)(H:Hp)(s:Shared)(Q:VK)(E:XK)(r:Result)(s':Shared):Prop:=
 match r with
 | .ok (.ret u)=>CE outer P w H s Q u s'
 | .ok _=>False
 | .error e=>CX outer H s E e s'
structure Ls (P:Program)(w:World)(K:PySem.W.Frag)(mg:Str->Option Value)(base:Heap)(CX:CXT)(k:Nat)(f:Addr)(fd:FuncData)(ps:List Str)(sp:Sp):Prop where
 len:∀vs H Q E,sp vs H Q E->vs.length=ps.length
 run:∀(A:Around) (outer:List Env) (s:Shared) (H:Hp) (args:Args) (us:List Value) (vs:List V) (Q:VK) (E:XK),C1 k A->XD P w K mg base A outer s H->BindsTo s fd args (ps.zip us)->Vals vs us->sp vs H Q E->
  codeAny (model P w) A (.call (.ref f) args) (CR CX outer P w H s Q E) s
theorem XD.make {P:Program}{w:World}{K:PySem.W.Frag}{mg:Str->Option Value}{base:Heap}{A:Around}{outer:List Env}{s:Shared}{H:Hp}(e:XD P w K mg base A outer s H)(C:Addr)(us:List Value)(kw:List (Str×Value)):
  XD P w K mg base (A.under (.builtin "type.__call__" ⟨.ref C::us,kw⟩)) outer s H:=⟨by first|exact e.frames|(simpa [Around.under,Code.envs,Code.isFrame,pushEnvs]using e.frames),e.mod,e.bs,e.bsz,e.JJ,e.frf,e.hok,e.bare⟩
section
variable {X:Cx}{pins:List (Addr×Obj)}{σ:St}{H:Hp}{s s':Shared}
theorem Inv.kL (I:Inv X pins σ H s):XD X.prog X.w X.K X.mg X.base X.A X.stack s H:=
 ⟨I.ok.frames,I.ok.mod,I.bs,Nat.le_trans I.ok.bsz I.sz,I.stack,I.TV,I.hok,I.bare⟩
theorem Inv.after (I:Inv X pins σ H s)(h:CE X.stack X.prog X.w H s Q u s'):EP X pins σ Q u s':=by
 obtain⟨v,H',os,bare,un,hok,r,q⟩:=h
 obtain⟨hh,g,d,t,os'⟩:=s'
 obtain rfl:os'=s.os:=os
 exact⟨v,H',I.call (h':=hh) (g':=g) (d':=d) (t':=t) (ch:=[]) un hok bare (fun b z=>absurd z (by simp)),r,q⟩
end
def fc (C:Addr)(m:Str)(sp:Sp)(dvs:List V)(E:XK)(ta:TE)(t:TA):TE:=fun σ H Q=>ta σ H fun x H1=>∃a dx fs,x=.ref a/\H1 a=some (.ins C dx fs)/\fs.lookup m=none/\
 t σ H1 fun vs H2=>sp (x::(vs++dvs)) H2 Q E
def fe (C:Addr)(sp:Sp)(dvs:List V)(E:XK)(t:TA):TE:=fun σ H Q=>t σ H fun vs H1=>∀x dx,H1 x=none->H1 dx=none->dx≠x->
 sp (.ref x::(vs++dvs)) (upd (upd H1 dx (.own x)) x (.ins C dx [])) (fun v H2=>v=.non/\Q (.ref x) H2) E
def Binds (K:PySem.W.Frag)(fd:FuncData)(ps:List Str)(ds:List Value):Prop:=
 ∀(s:Shared) (us:List Value),K.In s.heap->(us++ds).length=ps.length->BindsTo s fd ⟨us,[]⟩ (ps.zip (us++ds))
theorem Binds.all {K:PySem.W.Frag}{fd:FuncData}{ps:List Str}(h:∀us:List Value,us.length=ps.length->bindArgs fd ⟨us,[]⟩=pure (ps.zip us)):Binds K fd ps []:=fun s us _ hl=>by
 rw[List.append_nil]at hl ⊢
 exact .of_eq (h us hl)
def Passes (CX:CXT)(X:Cx)(E:XK):Prop:=∀(pins:List (Addr×Obj)) (σ:St) (H:Hp) (s:Shared) (e:Value) (s':Shared),Inv X pins σ H s->CX X.stack H s E e s'->X.xe e s'
section
variable {X:Cx}{CX:CXT}{k:Nat}{f C:Addr}{fd:FuncData}{ps:List Str}{sp:Sp}{dvs:List V}{ds:List Value}{E:XK}{x m:Str}{p pos apos:Pos}{e o:Expr}{es:List Expr}{ta:TE}{t:TA}
theorem Ti (F:Ls X.prog X.w X.K X.mg X.base CX k f fd ps sp)(hr:C1 k X.A)(hb:Binds X.K fd ps ds)(hd:Vals dvs ds)(hx:Passes CX X E)
  (I:Inv X pins σ H s)(r:Vals vs us)(h:sp (vs++dvs) H Q E):wpAny (model X.prog X.w) X.A (call (.ref f) us) (EP X pins σ Q) X.xe s:=by
 have r2:Vals (vs++dvs) (us++ds):=r.append hd
 have hl:(us++ds).length=ps.length:=by rw[<-r2.length];exact F.len _ _ _ _ h
 refine wpAny_call (codeAny_mono (F.run X.A X.stack s H ⟨us,[]⟩ (us++ds) (vs++dvs) Q E hr I.kL (hb s us I.kIn hl) r2 h) fun r s' hq=>?_)
 cases r with
 |error e=>exact hx pins σ H s e s' I hq
 |ok fl=>
  cases fl with
  |ret u=>exact I.after hq
  |next=>exact False.elim hq
  |brk=>exact False.elim hq
  |cont=>exact False.elim hq
theorem dM (he:PE X o ta)(c:Cls X.K C)(hm:Meth X.K C m f)(F:Ls X.prog X.w X.K X.mg X.base CX k f fd ps sp)(hr:C1 k X.A)(hb:Binds X.K fd ps ds)(hd:Vals dvs ds)(hx:Passes CX X E)(ha:PA X (e::es) t)
  (hst:starEach (e::es) X.env=(false,eval e X.env)::starEach es X.env:=by rfl)(hpl:(backTo pos (starEach es X.env)).any (·.1)=false:=by rfl)
  (ht:eval (.Call (.Attribute o m apos) (e::es) [] pos) X.env=(do
   let ov <-eval o X.env
   standAt apos.atName
   let(f,first) <-holding [ov] (getMethod ov m pl)
   callWith pos f first (backTo pos (starEach (e::es) X.env)) (backToKw pos (keywordEach [] X.env))):=by rfl):
  PE X (.Call (.Attribute o m apos) (e::es) [] pos) (fc C m sp dvs E ta t):=by
 intro pins s σ H Q I h
 refine PySem.W.methodCall_KW (pl:=pl) (thn (he pins s σ H _ I h) fun u s1 ⟨x,H1,I1,rx,a,dx,fs,ex,ea,l,q⟩=>?_) ht
 subst ex
 obtain rfl:u=Value.ref a:=rx
 refine LJ I1 ea c hm l ?_
 refine PySem.W.callWith_K (first:=[.ref a]) (h₀:=X.base) I.ok.mod.kin hm.kp (thn (ha pos pins s1 σ H1 _ I1 q) fun us s2 ⟨vs,H2,I2,r,q2⟩=>⟨I2.kIn,?_⟩) hst hpl
 exact Ti (us:=.ref a::us) (vs:=.ref a::vs) F hr hb hd hx I2 (.cons rfl r) q2
theorem aX (he:PE X o ta)(c:Cls X.K C)(hm:Meth X.K C m f)(F:Ls X.prog X.w X.K X.mg X.base CX k f fd ps sp)(hr:C1 k X.A)(hb:Binds X.K fd ps ds)(hd:Vals dvs ds)(hx:Passes CX X E)
  (ht:eval (.Call (.Attribute o m apos) [] [] pos) X.env=(do
   let ov <-eval o X.env
   standAt apos.atName
   let(f,first) <-holding [ov] (getMethod ov m pl)
   callWith pos f first (backTo pos (starEach [] X.env)) (backToKw pos (keywordEach [] X.env))):=by rfl):
  PE X (.Call (.Attribute o m apos) [] [] pos) (fc C m sp dvs E ta DT):=by
 intro pins s σ H Q I h
 refine PySem.W.methodCall_KW (pl:=pl) (thn (he pins s σ H _ I h) fun u s1 ⟨x,H1,I1,rx,a,dx,fs,ex,ea,l,q⟩=>?_) ht
 subst ex
 obtain rfl:u=Value.ref a:=rx
 refine LJ I1 ea c hm l ?_
 exact PySem.W.callWith_K0 (first:=[.ref a]) I1.kIn hm.kp (Ti (us:=[.ref a]) (vs:=[.ref a]) F hr hb hd hx I1 (.cons rfl .nil) q)
structure Mk (K:PySem.W.Frag)(C f:Addr):Prop where
 makes:PySem.W.makesIn K C=true
 init:PySem.W.findIn K (.ref C) "__init__"=some (some (.ref f))
 fn:PySem.W.isFn K (.ref f)=true
 kp:PySem.W.keepIn K (.ref C)=true
theorem VP (M:Mk X.K C f)(F:Ls X.prog X.w X.K X.mg X.base CX k f fd ps sp)(hr:C1 (k+1) X.A)(hb:Binds X.K fd ps ds)(hd:Vals dvs ds)
  (hx:Passes CX X E)(I:Inv X pins σ H s)(r:Vals vs us)
  (h:∀x dx,H x=none->H dx=none->dx≠x->sp (.ref x::(vs++dvs)) (upd (upd H dx (.own x)) x (.ins C dx [])) (fun v H2=>v=.non/\Q (.ref x) H2) E):
  wpAny (model X.prog X.w) X.A (call (.ref C) us) (EP X pins σ Q) X.xe s:=by
 have hq:=h (s.heap.objs.size+1) s.heap.objs.size (I.hok.fresh (Nat.le_succ _)) (I.hok.fresh (Nat.le_refl _)) (Nat.ne_of_lt (Nat.lt_succ_self _))
 have I2:=Inv.made (C:=C) I
 have r2:Vals (V.ref (s.heap.objs.size+1)::(vs++dvs)) (Value.ref (s.heap.objs.size+1)::(us++ds)):=.cons rfl (r.append hd)
 have hl:(Value.ref (s.heap.objs.size+1)::us++ds).length=ps.length:=by
  have e:=r2.length
  rw[F.len _ _ _ _ hq]at e
  exact e.symm
 refine wpAny_call (aW (f:=f) I.kIn M.makes M.init (beq_iff_eq.mp M.fn) (codeAny_mono (F.run _ X.stack _ _ ⟨Value.ref (s.heap.objs.size+1)::us,[]⟩ (Value.ref (s.heap.objs.size+1)::(us++ds)) _ _ E (hr.make C us [])
  (I2.kL.make C us []) (hb _ (Value.ref (s.heap.objs.size+1)::us) I2.kIn hl) r2 hq) fun r s' hq'=>?_))
 cases r with
 |error e=>exact hx pins σ _ _ e s' I2 hq'
 |ok fl=>
  cases fl with
  |ret u=>
   obtain⟨v,H',I3,rv,ev,q3⟩:=I2.after hq'
   subst ev
   exact⟨rv,⟨V.ref (s.heap.objs.size+1),H',I3,rfl,q3⟩⟩
  |next=>exact False.elim hq'
  |brk=>exact False.elim hq'
  |cont=>exact False.elim hq'
theorem dN (M:Mk X.K C f)(F:Ls X.prog X.w X.K X.mg X.base CX k f fd ps sp)(hr:C1 (k+1) X.A)(hg:Gl X x)(hm:X.mg x=some (.ref C))(hb:Binds X.K fd ps ds)(hd:Vals dvs ds)(hx:Passes CX X E)
  (ha:PA X (e::es) t)(hdb:(x == ("__debug__":Str))=false:=by decide)(he:starEach (e::es) X.env=(false,eval e X.env)::starEach es X.env:=by rfl)(hpl:(backTo pos (starEach es X.env)).any (·.1)=false:=by rfl):
  PE X (.Call (.Name x p) (e::es) [] pos) (fe C sp dvs E t):=by
 intro pins s σ H Q I h
 refine wpAny_Call_Name_kw (GH I hg hm ?_ hdb)
 refine PySem.W.callWith_K (h₀:=X.base) I.ok.mod.kin M.kp (thn (ha pos pins s σ H _ I h) fun us s1 ⟨vs,H1,I1,r,q⟩=>⟨I1.kIn,?_⟩) he hpl
 exact VP M F hr hb hd hx I1 r q
theorem aY (M:Mk X.K C f)(F:Ls X.prog X.w X.K X.mg X.base CX k f fd ps sp)(hr:C1 (k+1) X.A)(hg:Gl X x)(hm:X.mg x=some (.ref C))(hb:Binds X.K fd ps ds)(hd:Vals dvs ds)(hx:Passes CX X E)
  (hdb:(x == ("__debug__":Str))=false:=by decide):PE X (.Call (.Name x p) [] [] pos) (fe C sp dvs E DT):=by
 intro pins s σ H Q I h
 refine wpAny_Call_Name_kw (GH I hg hm ?_ hdb)
 exact PySem.W.callWith_K0 I.kIn M.kp (VP (us:=[]) M F hr hb hd hx I .nil h)
end
section
variable {X:Cx}{CX:CXT}{k:Nat}{f C:Addr}{fd:FuncData}{ps ks:List Str}{sp:Sp}{E:XK}{x m:Str}{p pos apos kpos:Pos}{e o:Expr}{es:List Expr}{kws:List Keyword}{te ta:TE}{t tk:TA}{nm:Option Str}
variable {g:List Value->List Value->List Value}{gV:List V->List V->List V}
end
structure AL (N P:List Str)(sc:Scope):Prop where
 kind:sc.kind=.function
 co:sc.isCoroutine=false
 gen:sc.isGenerator=false
 nd:N.Nodup
 pre:N.take P.length=P
 par:∀x∈P,sc.names.lookup x=some .local\/sc.names.lookup x=some .cell
 iq:∀y∈sc.names,y.2≠.free
theorem R8 {kindOf:Str->Option NameKind}{x:Str}:∀{binds:List (Str×Value)}{m:Str->Option Value},(∀v,(x,v)∉binds)->bindL kindOf binds m x=m x
 |[],_,_=>rfl
 |(n,v)::r,m,h=>by
  unfold bindL
  rw[R8 fun w hw=>h w (List.mem_cons_of_mem _ hw)]
  split
  ·have:x≠n:=by rintro rfl;exact h v List.mem_cons_self
   simp[this]
  ·rfl
theorem R9 {kindOf:Str->Option NameKind}{x:Str}:∀{binds:List (Str×Value)}{m:Str->Option Value},(∀v,(x,v)∉binds)->bindC kindOf binds m x=m x
 |[],_,_=>rfl
 |(n,v)::r,m,h=>by
  unfold bindC
  rw[R9 fun w hw=>h w (List.mem_cons_of_mem _ hw)]
  split
  ·rfl
  ·have:x≠n:=by rintro rfl;exact h v List.mem_cons_self
   simp[this]
theorem SA {kindOf:Str->Option NameKind}{x:Str}{v:Value}:∀{P:List Str}{vs:List Value}{i:Nat}{m:Str->Option Value},P.Nodup->P[i]? =some x->vs[i]? =some v->kindOf x=some .local->
  bindL kindOf (P.zip vs) m x=some v
 |[],_,_,_,_,h,_,_=>by simp at h
 |_::_,[],_,_,_,_,h,_=>by simp at h
 |p::P,w::vs,0,m,nd,h1,h2,hk=>by
  simp at h1 h2;subst h1;subst h2
  show bindL kindOf ((p,w)::P.zip vs) m p=_
  unfold bindL
  rw[R8 fun v hv=>(List.nodup_cons.mp nd).1 (List.of_mem_zip hv).1,if_pos hk]
  simp
 |p::P,w::vs,i+1,m,nd,h1,h2,hk=>by
  show bindL kindOf ((p,w)::P.zip vs) m x=_
  unfold bindL
  exact SA (i:=i) (List.nodup_cons.mp nd).2 (by simpa using h1) (by simpa using h2) hk
theorem SD {kindOf:Str->Option NameKind}{x:Str}{v:Value}:∀{P:List Str}{vs:List Value}{i:Nat}{m:Str->Option Value},P.Nodup->P[i]? =some x->vs[i]? =some v->kindOf x≠some .local->
  bindC kindOf (P.zip vs) m x=some v
 |[],_,_,_,_,h,_,_=>by simp at h
 |_::_,[],_,_,_,_,h,_=>by simp at h
 |p::P,w::vs,0,m,nd,h1,h2,hk=>by
  simp at h1 h2;subst h1;subst h2
  show bindC kindOf ((p,w)::P.zip vs) m p=_
  unfold bindC
  rw[R9 fun v hv=>(List.nodup_cons.mp nd).1 (List.of_mem_zip hv).1,if_neg hk]
  simp
 |p::P,w::vs,i+1,m,nd,h1,h2,hk=>by
  show bindC kindOf ((p,w)::P.zip vs) m x=_
  unfold bindC
  exact SD (i:=i) (List.nodup_cons.mp nd).2 (by simpa using h1) (by simpa using h2) hk
def start (N:List Str)(vs:List V):St:=vs.map some++List.replicate (N.length - vs.length) none
def Fp (CX:CXT)(P:Program)(w:World)(K:PySem.W.Frag)(mg:Str->Option Value)(base:Heap)(N:List Str)(qual:Str)(scope:Scope)(f:Addr)(cd:Value)(A:Around)(outer:List Env)(s:Shared)(H:Hp)(E:XK):Cx where
 prog:=P
 w:=w
 K:=K
 mg:=mg
 base:=base
 A:=A.deeper (envOfC qual scope s.heap.objs.size f cd)
 N:=N
 s_0:=s
 H_0:=H
 env:=envOfC qual scope s.heap.objs.size f cd
 outer:=outer
 stack:=envOfC qual scope s.heap.objs.size f cd::outer
 ex:=[]
 calm:=true
 fn:=fun _=>true
 pn:=[]
 xe:=fun e s'=>wpAny (model P w) (A.deeper (envOfC qual scope s.heap.objs.size f cd)) (leaving (envOfC qual scope s.heap.objs.size f cd) e) (fun _ s''=>CX outer H s E e s'') (fun e' s''=>CX outer H s E e' s'') s'
theorem VQ {sc:Scope}{n:Nat}{x:Str}(h:sc.names.lookup x=some .cell):∃c,(cellsFrom n sc.names []).lookup x=some c:=by
 have q:=PySem.W.cellsFrom_some sc.names n [] (.inl h)
 exact Option.isSome_iff_exists.mp q
theorem ZD {CX:CXT}{P:Program}{w:World}{K:PySem.W.Frag}{mg:Str->Option Value}{base:Heap}{N ps:List Str}{qual:Str}{scope:Scope}{f:Addr}{cd:Value}{A:Around}{outer:List Env}{s s1:Shared}{H:Hp}{E:XK}{us:List Value}{vs:List V}
  (S:AL N ps scope)(hd:A.handled=none)(e0:XD P w K mg base A outer s H)(hl:vs.length=ps.length)(r:Vals vs us)
  (x:InCallC s s.heap.objs.size (bindL (envOfC qual scope s.heap.objs.size f cd).kindOf (ps.zip us) fun _=>none) (cellsFrom (s.heap.objs.size+1) scope.names []) (bindC (envOfC qual scope s.heap.objs.size f cd).kindOf (ps.zip us) fun _=>none) s1):
  Inv (Fp CX P w K mg base N qual scope f cd A outer s H E) [] (start N vs) H s1:=by
 have hpl:ps.length<=N.length:=by have:=congrArg List.length S.pre;rw[List.length_take]at this;omega
 obtain⟨h1,tk,rfl,hk⟩:=x.done
 have noA:∀b:Addr,b∉(Fp CX P w K mg base N qual scope f cd A outer s H E).ex:=fun b z=>absurd (show b∈([]:List Addr)from z) (by simp)
 refine⟨⟨e0.mod,S.kind,rfl,rfl,Nat.le_refl _,fun y z c h1 h2=>?_,fun y hy=>?_,fun y c _ h=>?_,fun _=>hd,Around.frames_deeper e0.frames,.inr ⟨rfl,rfl⟩,fun b z=>absurd z (noA b),e0.bs,e0.bsz,fun b _ _=>noA b,fun b z=>absurd z (noA b),e0.JJ,e0.frf⟩,
  rfl,e0.bare,Un.kept hk,⟨_,x.toInCall.ns,fun i y v h1 h2 h3=>?_⟩,fun y c h=>⟨_,x.cell y c h⟩,e0.hok.fresh (Nat.le_refl _),fun y c h=>?_,fun p hp=>absurd (show p∈([]:List (Addr×Obj))from hp) (by simp),e0.hok.kept hk,?_⟩
 ·exact name_of_addr x.apart (PySem.mem_of_lookup h1) (PySem.mem_of_lookup h2)
 ·have hy:scope.names.lookup y=some .cell\/scope.names.lookup y=some .free:=hy
  rcases hy with hy|hy
  ·exact VQ hy
  ·exact absurd rfl (S.iq _ (PySem.mem_of_lookup hy))
 ·exact Nat.le_of_lt (x.above y c (PySem.mem_of_lookup h))
 ·have hi:i<vs.length:=by
   unfold start at h2
   by_cases hi:i<vs.length
   ·exact hi
   ·rw[List.getElem?_append_right (by simpa using hi)]at h2
    rw[List.getElem?_replicate]at h2
    split at h2 <;> cases h2
  have ha:vs[i]? =some v:=by
   unfold start at h2
   rw[List.getElem?_append_left (by simpa using hi),List.getElem?_map]at h2
   cases e:vs[i]? with
   |none=>rw[e]at h2;cases h2
   |some a=>rw[e]at h2;cases h2;rfl
  obtain⟨u,hu,rv⟩:=r.get ha
  have hp:ps[i]? =some y:=by
   rw[<-S.pre,List.getElem?_take_of_lt (by omega)];exact h1
  have ndP:ps.Nodup:=by rw[<-S.pre];exact S.nd.sublist (List.take_sublist _ _)
  refine⟨u,rv,?_⟩
  rcases S.par y (List.mem_of_getElem? hp)with k|k
  ·exact .inl ⟨k,SA ndP hp hu k⟩
  ·obtain⟨c,e⟩:=VQ (n:=s.heap.objs.size+1) k
   refine .inr ⟨.inl k,c,e,?_⟩
   have q:=x.cell y c e
   rw[SD ndP hp hu (by show scope.names.lookup y≠_;rw[k];decide)]at q
   exact q
 ·exact e0.hok.fresh (Nat.le_of_lt (x.above y c (PySem.mem_of_lookup h)))
 ·unfold start
  show _=N.length
  rw[List.length_append,List.length_map,List.length_replicate]
  omega
theorem ff {CX:CXT}{P:Program}{w:World}{K:PySem.W.Frag}{mg:Str->Option Value}{base:Heap}{k:Nat}{f:Addr}{name qual:Str}{params:Arguments}{body:List Stmt}{scope:Scope}{dV kV doc pm cdv ct oc:Value}{an od:Option Addr}
  {osl:Array (Option Value)}{N ps:List Str}{sp:Sp}(lk:K.lookup f=some ⟨oc,od,.func (PySem.W.fnOf name qual params body scope dV kV doc pm an cdv ct),osl⟩)(hcd:PySem.W.codeIn K cdv qual=true)(S:AL N ps scope)
  (len:∀vs H Q E,sp vs H Q E->vs.length=ps.length)
  (hbody:∀(A:Around) (outer:List Env) (s:Shared) (H:Hp) (vs:List V) (Q:VK) (E:XK),C1 k (A.deeper (envOfC qual scope s.heap.objs.size f cdv))->sp vs H Q E->
   ∃t,PSs (Fp CX P w K mg base N qual scope f cdv A outer s H E) body t/\t {nx:=fun _ H'=>Q .non H',rt:=Q} (start N vs) H):
  Ls P w K mg base CX (k+1) f (PySem.W.fnOf name qual params body scope dV kV doc pm an cdv ct) ps sp:=by
 refine⟨len,fun A outer s H args us vs Q E hr e0 hb r hsp=>?_⟩
 have hl:=len _ _ _ _ hsp
 have KX:K.In s.heap:=e0.mod.kin.keeps fun b o e=>(e0.bs b o e).1
 have lim:s.heap.NoLimit:=e0.mod.nolimit.keeps fun b o e=>(e0.bs b o e).1
 have hkind:∀y∈ps.zip us,scope.names.lookup y.1=some .local\/(scope.names.lookup y.1=some .cell/\((cellsFrom (s.heap.objs.size+1) scope.names []).lookup y.1).isSome=true):=fun⟨n,v⟩ hy=>by
  rcases S.par n (List.of_mem_zip hy).1 with q|q
  ·exact .inl q
  ·exact .inr ⟨q,PySem.W.cellsFrom_some _ _ _ (.inl q)⟩
 refine codeAny_call_function hr.depth (KX _ _ lk) rfl S.co S.gen rfl (PySem.W.codeRec_of KX hcd) (hb _ _ _ _ ?_)
 refine wpAny_newFunctionEnv_cells S.kind hkind fun env he s1 x=>?_
 subst he
 refine⟨lim.keeps x.toInCall.keep,codeAny_func ?_⟩
 obtain⟨t,ht,hq⟩:=hbody A outer s H vs Q E (hr.deeper _) hsp
 have I:Inv (Fp CX P w K mg base N qual scope f cdv A outer s H E) [] (start N vs) H s1:=ZD S hr.hd e0 hl r x
 refine wpAny_mono (ht [] s1 (start N vs) H _ I hq) (fun fl s' hs=>?_) fun e s' hs=>hs
 have fin:∀{σ':St}{H':Hp}{v:V}{u:Value},Inv (Fp CX P w K mg base N qual scope f cdv A outer s H E) [] σ' H' s'->RelV v u->Q v H'->CE outer P w H s Q u s':=
  fun{σ' H' v u} J rv q=>⟨v,H',J.os,J.bare,J.base,J.hok,rv,q⟩
 cases fl with
 |ret u=>
  obtain⟨v,σ',H',J,rv,q⟩:=hs
  exact fin J rv q
 |next=>
  obtain⟨σ',H',J,q⟩:=hs
  exact fin (v:=V.non) (u:=Value.none) J rfl q
 |brk=>
  obtain⟨_,_,_,q⟩:=hs
  exact False.elim q
 |cont=>
  obtain⟨_,_,_,q⟩:=hs
  exact False.elim q
section
variable {X:Cx}{x:Str}{p pos:Pos}{e:Expr}{es:List Expr}{t:TA}{id T:String}{r:List V->Hp->VK->Prop}
def tCB (r:List V->Hp->VK->Prop)(t:TA):TE:=fun σ H Q=>t σ H fun vs H1=>r vs H1 Q
theorem AZ (hc:Fm X (.builtin id) r)(hg:Gl X x)(hm:X.mg x=none)(hv:bootBuiltins x=some (.builtin id))(ha:PA X (e::es) t)(hn:x≠"__name__":=by decide)(hdb:(x == ("__debug__":Str))=false:=by decide)
  (he:starEach (e::es) X.env=(false,eval e X.env)::starEach es X.env:=by rfl)(hpl:(backTo pos (starEach es X.env)).any (·.1)=false:=by rfl):PE X (.Call (.Name x p) (e::es) [] pos) (tCB r t):=by
 intro pins s σ H Q I h
 refine wpAny_Call_Name_kw (JQ I hg hm hv ?_ hn hdb)
 exact PyProof.Rows.callWith_builtin1 (thn (ha pos pins s σ H _ I h) fun us s1 ⟨vs,H1,I1,r1,q1⟩=>hc pins s1 σ H1 vs us Q I1 r1 q1) he hpl
theorem SE (hc:Fm X (.type T) r)(hg:Gl X x)(hm:X.mg x=none)(hv:bootBuiltins x=some (.type T))(ha:PA X (e::es) t)(hn:x≠"__name__":=by decide)(hdb:(x == ("__debug__":Str))=false:=by decide)
  (he:starEach (e::es) X.env=(false,eval e X.env)::starEach es X.env:=by rfl)(hpl:(backTo pos (starEach es X.env)).any (·.1)=false:=by rfl):PE X (.Call (.Name x p) (e::es) [] pos) (tCB r t):=by
 intro pins s σ H Q I h
 refine wpAny_Call_Name_kw (JQ I hg hm hv ?_ hn hdb)
 exact PyProof.Rows.callWith_type1 (thn (ha pos pins s σ H _ I h) fun us s1 ⟨vs,H1,I1,r1,q1⟩=>hc pins s1 σ H1 vs us Q I1 r1 q1) he hpl
end
end L2
namespace HT
open PySem PyProof.Rows
section
open PySem.SeqAt
open PySem.AutoSeq1 (wpAny_loadPart')
open PySem.MeetsSeq PySem.MeetsSeq2 PySem.MeetsSeq3
end
section
variable {prog:Program}{w:World}{A:Around}{E:Value->Shared->Prop}{s:Shared}
theorem dO (ht:IsTup s.heap t vs.toArray)(hb:IsTup s.heap b ws.toArray)(hv:vs≠[])
  (h1:ws=[]->Q (.ref t) s)(h2:ws≠[]->Q (.ref s.heap.objs.size) {s with heap:=s.heap.push {cls:=.type "tuple",data:=.seq (vs++ws).toArray}})
  (hsz:vs.length+ws.length<=sizeLine):wpAny (model prog w) A (binaryOp .Add (.ref t) (.ref b)) Q E s:=by
 obtain⟨⟨cls,dd,data,sl⟩,ho,hc,n,hd⟩:=id ht
 obtain⟨⟨cls2,dd2,data2,sl2⟩,ho2,hc2,n2,hd2⟩:=id hb
 simp only at hc hd hc2 hd2
 subst hc hd hc2 hd2
 have e:vs.toArray++ws.toArray=(vs++ws).toArray:=by simp
 by_cases hw:ws=[]
 ·exact concat_meets ⟨_,ho,rfl⟩ ⟨_,ho2,rfl⟩ noFill_tuple_add seq_tuple_add PySem.F.slot_tuple_add PySem.F.entry_tuple_add (PySem.F.args_tuple_add_2 _ _)
   (tuple_addW1 t b vs.toArray ws.toArray n n2 dd dd2 sl sl2 (by simpa using hv) (by simp[hw])) ⟨ho,ho2,h1 hw⟩
 ·refine concat_meets ⟨_,ho,rfl⟩ ⟨_,ho2,rfl⟩ noFill_tuple_add seq_tuple_add PySem.F.slot_tuple_add PySem.F.entry_tuple_add (PySem.F.args_tuple_add_2 _ _)
   (tuple_addW2 t b vs.toArray ws.toArray n n2 dd dd2 sl sl2 (by simpa using hv) (by simpa using hw) (by rw[List.size_toArray,List.size_toArray];exact hsz)) ⟨ho,ho2,?_⟩
  rw[e]
  exact h2 hw
def sIx (n d:Nat):Option Int->Nat
 |none=>d
 |some v=>if v<0 then(v+(n:Int)).toNat else min v.toNat n
theorem VR (n d:Nat):sIx n d none=d:=rfl
theorem OX (n d k:Nat):sIx n d (some (k:Int))=min k n:=by
 show(if(k:Int)<0 then((k:Int)+(n:Int)).toNat else min (k:Int).toNat n)=min k n
 rw[if_neg (by omega),Int.toNat_natCast]
end
end HT
namespace L2
open PySem PySem.Spec PyProof.Rows
abbrev TO:=St->Hp->(Option Int->Hp->Prop)->Prop
def PO (X:Cx)(e:Option Expr)(t:TO):Prop:=
 ∀(pins:List (Addr×Obj)) (s:Shared) (σ:St) (H:Hp) (Q:Option Int->Hp->Prop),Inv X pins σ H s->t σ H Q->
  wpAny (model X.prog X.w) X.A (evalPart e X.env) (fun u s'=>∃o H',Inv X pins σ H' s'/\IsPart u o/\Q o H') X.xe s
def OY:TO:=fun _ H Q=>Q none H
def YE (t:TE):TO:=fun σ H Q=>t σ H fun x H1=>∃i,x=.int i/\Q (some i) H1
section
variable {X:Cx}{e:Expr}{te:TE}{lo hi:Option Expr}{tl th:TO}{pos p2:Pos}
theorem GQ:PO X none OY:=by
 intro pins s σ H Q I h
 rw[evalPart_none]
 exact wpAny_pure ⟨none,H,I,.none,h⟩
theorem Ek (h:PE X e te):PO X (some e) (YE te):=by
 intro pins s σ H Q I hw
 rw[evalPart_some]
 refine thn (h pins s σ H _ I hw) fun u s1 ⟨x,H1,I1,r1,q1⟩=>?_
 obtain⟨i,rfl,q⟩:=q1
 obtain⟨t,rfl⟩:=r1
 exact⟨some i,H1,I1,.int i t,q⟩
def SlR (X:Cx)(r:V->Option Int->Option Int->Hp->VK->Prop):Prop:=
 ∀(pins:List (Addr×Obj)) (s:Shared) (σ:St) (H:Hp) (x:V) (v vl vu:Value) (lo hi:Option Int) (sl:Addr) (Q:VK),Inv X pins σ H s->RelV x v->s.heap.IsSliceOf sl vl vu .none->IsPart vl lo->IsPart vu hi->r x lo hi H Q->
  ∃T id,typeLookup (.type T) "__getitem__"=pure (some (.builtin id))/\s.TypeIs v T/\wpAny (model X.prog X.w) X.A (getItem v (.ref sl)) (EP X pins σ Q) X.xe s
def tSl (r:V->Option Int->Option Int->Hp->VK->Prop)(te:TE)(tl th:TO):TE:=fun σ H Q=>te σ H fun x H1=>tl σ H1 fun l H2=>th σ H2 fun u H3=>r x l u H3 Q
theorem Dy (hr:SlR X r)(he:PE X e te)(hl:PO X lo tl)(hu:PO X hi th):PE X (.Subscript e (.Slice lo hi none p2) pos) (tSl r te tl th):=by
 intro pins s σ H Q I h
 refine Subscript_ (thn (he pins s σ H _ I h) fun v s1 ⟨x,H1,I1,r1,q1⟩=>?_)
 refine wpAny_Slice (thn (hl pins s1 σ H1 _ I1 q1) fun vl s2 ⟨l,H2,I2,pl,q2⟩=>thn (hu pins s2 σ H2 _ I2 q2) fun vu s3 ⟨u,H3,I3,pu,q3⟩=>?_)
 rw[evalPart_none]
 refine wpAny_pure ?_
 have I4:Inv X pins σ H3 {s3 with heap:=s3.heap.push {cls:=.type "slice",data:=.fields #[vl,vu,.none]}}:=I3.kept (t':=s3.toks) fun b ob q=>Heap.get?_push_of_some _ q
 obtain⟨T,id,hT,ht,hg⟩:=hr pins {s3 with heap:=s3.heap.push {cls:=.type "slice",data:=.fields #[vl,vu,.none]}} σ H3 x v vl vu l u s3.heap.objs.size Q I4 r1 (Heap.IsSliceOf.new ..) pl pu q3
 show wpAny (model X.prog X.w) X.A (subscriptTail e (.Slice lo hi none p2) v (.ref s3.heap.objs.size)) (EP X pins σ Q) X.xe {s3 with heap:=s3.heap.push {cls:=.type "slice",data:=.fields #[vl,vu,.none]}}
 exact tail_any (ops:=[.ref s3.heap.objs.size,v]) ht hT hg (by with_unfolding_all rfl)
def Kj (xs:List V)(lo hi:Option Int):List V:=(xs.drop (HT.sIx xs.length 0 lo)).take (HT.sIx xs.length xs.length hi - HT.sIx xs.length 0 lo)
theorem VS (xs:List V)(lo hi:Option Int):(Kj xs lo hi).length<=xs.length:=by
 unfold Kj
 rw[List.length_take,List.length_drop]
 omega
def kM (K:PySem.W.Frag):R2:=fun x y H Q=>∃a b xs ys,x=.ref a/\y=.ref b/\SqT K H a xs/\SqT K H b ys/\xs≠[]/\xs.length+ys.length<=sizeLine/\
 (ys=[]->Q (.ref a) H)/\(ys≠[]->∀p,H p=none->Q (.ref p) (upd H p (.tup (xs++ys))))
theorem Vals.Tj (r:Vals xs us):us=[]↔xs=[]:=by
 cases r with
 |nil=>simp
 |cons _ _=>simp
theorem dP:OpR X (binaryOp .Add) (kM X.K):=by
 intro pins s σ H x y v u Q I rx ry h
 obtain⟨a,b,xs,ys,rfl,rfl,ha,hb,hx,hz,q1,q2⟩:=h
 cases rx
 cases ry
 obtain⟨its,r1,p1,_⟩:=I.tuple ha
 obtain⟨its2,r2,p2,_⟩:=I.tuple hb
 refine HT.dO p1 p2 (fun z=>hx (r1.Tj.mp z)) (fun z=>⟨.ref a,H,I,rfl,q1 (r2.Tj.mp z)⟩) (fun z=>?_) (by rw[<-r1.length,<-r2.length];exact hz)
 refine⟨.ref s.heap.objs.size,_,I.laid (t':=s.toks) (o:=.tup (xs++ys)) (fun b ob q=>Heap.get?_push_of_some _ q) (Nat.le_refl _) ?_,rfl,q2 (fun w=>z (r2.Tj.mpr w)) _ (I.hok.fresh (Nat.le_refl _))⟩
 exact⟨by rw[List.length_append];exact hz,_,r1.append r2,IsTup.new _ _⟩
end
def ixN (n:Nat)(i:Int):Option Nat:=if 0<=i then(if i<n then some i.toNat else none)else if -(n:Int)<=i then some (i+n).toNat else none
def atI {α:Type}(xs:List α)(i:Int):Option α:=(ixN xs.length i).bind fun j=>xs[j]?
theorem YF (h:ixN n i=some j):seqIndex? i n=some j/\j<n/\-(n:Int)<=i/\i<n:=by
 unfold ixN at h
 by_cases h0:0<=i
 ·rw[if_pos h0]at h
  by_cases h1:i<n
  ·rw[if_pos h1]at h
   have e:i.toNat=j:=Option.some.inj h
   exact⟨by rw[seqIndex_of h0 h1,e],by omega,by omega,h1⟩
  ·rw[if_neg h1]at h;cases h
 ·rw[if_neg h0]at h
  by_cases h1:-(n:Int)<=i
  ·rw[if_pos h1]at h
   have e:(i+n).toNat=j:=Option.some.inj h
   exact⟨by rw[seqIndex_neg (by omega) h1,e],by omega,h1,by omega⟩
  ·rw[if_neg h1]at h;cases h
theorem YG (h:atI xs i=some v):∃j,seqIndex? i xs.length=some j/\xs[j]? =some v/\j<xs.length/\-(xs.length:Int)<=i/\i<xs.length:=by
 unfold atI at h
 cases e:ixN xs.length i with
 |none=>rw[e]at h;cases h
 |some j=>
  rw[e]at h
  obtain⟨h1,h2,h3,h4⟩:=YF e
  exact⟨j,h1,h,h2,h3,h4⟩
theorem BO {α:Type}{xs:List α}{j:Nat}{v:α}(h:xs[j]? =some v):atI xs (j:Int)=some v:=by
 have hj:j<xs.length:=(List.getElem?_eq_some_iff.mp h).1
 have e:ixN xs.length (j:Int)=some j:=by
  unfold ixN
  rw[if_pos (by omega),if_pos (by omega)];simp
 unfold atI;rw[e];exact h
def dQ (b:Expr):Prop:=∀o i,subscripted b false o i=operate [o,i] (getItem o i)
def IxR (X:Cx)(r:R2):Prop:=
 ∀(value slice:Expr) (pins:List (Addr×Obj)) (s:Shared) (σ:St) (H:Hp) (x y:V) (v u:Value) (Q:VK),Inv X pins σ H s->RelV x v->RelV y u->r x y H Q->
  subscripted slice false v u=operate [v,u] (getItem v u)->wpAny (model X.prog X.w) X.A (subscriptTail value slice v u) (EP X pins σ Q) X.xe s
def MtR (X:Cx)(id:String)(r:V->List V->Hp->VK->Prop):Prop:=
 ∀(pins:List (Addr×Obj)) (s:Shared) (σ:St) (H:Hp) (x:V) (xs:List V) (v:Value) (us:List Value) (Q:VK),Inv X pins σ H s->RelV x v->Vals xs us->r x xs H Q->
  wpAny (model X.prog X.w) X.A (call (.builtin id) (v::us)) (EP X pins σ Q) X.xe s
section
variable {X:Cx}{a b:Expr}{ta tb:TE}{pos:Pos}
theorem Aa (hr:IxR X r)(ha:PE X a ta)(hb:PE X b tb)(hs:dQ b):PE X (.Subscript a b pos) (tOp r ta tb):=by
 intro pins s σ H Q I h
 exact Subscript_ (ij ha hb I h fun v u s2 x y H2 I2 rx ry q=>hr a b pins s2 σ H2 x y v u Q I2 rx ry q (hs _ _))
inductive kN (K:PySem.W.Frag)(x y:V)(H:Hp)(Q:VK):Prop
 |mk (p:Addr) (xs:List V) (i:Int) (v:V) (e1:x=.ref p) (e2:y=.int i) (s:SqL K H p xs) (h:atI xs i=some v) (q:Q v H):kN K x y H Q
def N0 (K:PySem.W.Frag):R2:=fun x y H Q=>kN K x y H Q
inductive kO (K:PySem.W.Frag)(x y:V)(H:Hp)(Q:VK):Prop
 |mk (p:Addr) (xs:List V) (i:Int) (v:V) (e1:x=.ref p) (e2:y=.int i) (s:SqT K H p xs) (h:atI xs i=some v) (q:Q v H):kO K x y H Q
def kP (K:PySem.W.Frag):R2:=fun x y H Q=>kO K x y H Q
theorem AR:IxR X (N0 X.K):=by
 intro value slice pins s σ H x y v u Q I rx ry h hs
 obtain⟨p,xs,i,z,rfl,rfl,hq,he,q⟩:=h
 cases rx
 obtain⟨t,rfl⟩:=ry
 obtain⟨its,r,pl,hz⟩:=I.list hq
 obtain⟨j,h1,h2,h3,h4,h5⟩:=YG he
 obtain⟨w,ew,rw'⟩:=r.get h2
 have hl:=r.length
 have hn:=Td
 have fin:EP X pins σ Q w s:=⟨z,H,I,rw',q⟩
 by_cases h0:0<=i
 ·have hj:i.toNat=j:=by
   rw[seqIndex_of h0 h5]at h1
   exact Option.some.inj h1
  exact item_listR pl.isList h0 (by omega) (by rw[hj];simpa using ew) fin hs
 ·have hj:(i+(its.toArray.size:Int)).toNat=j:=by
   rw[seqIndex_neg (by omega) h4]at h1
   rw[List.size_toArray,<-hl]
   exact Option.some.inj h1
  exact subscriptTail_builtinR (x:=w) pl.isList.typeIs slot_list_getitem.lookup
   (wpAny_getItem_list_neg (Q:=fun r s'=>r=w/\EP X pins σ Q r s') pl.isList (by omega) (by rw[List.size_toArray] <;> omega) (by omega) (by rw[hj];simpa using ew) ⟨rfl,fin⟩) hs
theorem Ox:IxR X (kP X.K):=by
 intro value slice pins s σ H x y v u Q I rx ry h hs
 obtain⟨p,xs,i,z,rfl,rfl,hq,he,q⟩:=h
 cases rx
 obtain⟨t,rfl⟩:=ry
 obtain⟨its,r,pl,hz⟩:=I.tuple hq
 obtain⟨j,h1,h2,h3,h4,h5⟩:=YG he
 obtain⟨w,ew,rw'⟩:=r.get h2
 have hl:=r.length
 have hn:=Td
 have fin:EP X pins σ Q w s:=⟨z,H,I,rw',q⟩
 exact subscriptTail_builtinR (x:=w) pl.typeIs slot_tuple_getitem.lookup
  (getItem_tuple (j:=j) (Q:=fun r s'=>r=w/\EP X pins σ Q r s') pl (by omega) (by omega) (by rw[List.size_toArray,<-hl];exact h1) (by simpa using ew) ⟨rfl,fin⟩) hs
theorem XE (its:List Value)(n j:Nat)(u:Value):Obj.mapSeq (·.setIfInBounds j u) {cls:=.type "list",data:=.seq its.toArray n}={cls:=.type "list",data:=.seq (its.set j u).toArray n}:=by
 simp[Obj.mapSeq]
theorem Inv.lst (I:Inv X pins σ H s)(h:H p=some (.lst xs)):
  ∃(its:List Value) (n:Nat),Vals xs its/\s.heap.get? p=some {cls:=.type "list",data:=.seq its.toArray n}/\xs.length<=sizeLine:=by
 obtain⟨z,its,n,r,e⟩:=I.hok p _ h
 exact⟨its,n,r,e,z⟩
theorem Inv.ir {pins:List (Addr×Obj)}{σ:St}{H:Hp}{s:Shared}{p:Addr}{xs ys:List V}{its its':List Value}{n n':Nat}{f:Obj->Obj}(I:Inv X pins σ H s)(h:H p=some (.lst xs))
  (ho:s.heap.get? p=some {cls:=.type "list",data:=.seq its.toArray n})(hf:f {cls:=.type "list",data:=.seq its.toArray n}={cls:=.type "list",data:=.seq its'.toArray n'})(r:Vals ys its')(hz:ys.length<=sizeLine)(t:Nat):
  Inv X pins σ (upd H p (.lst ys)) {s with heap:=s.heap.update p f,toks:=t}:=by
 have e:(s.heap.update p f).get? p=some {cls:=.type "list",data:=.seq its'.toArray n'}:=by
  rw[Heap.get?_update_self f ho (by rw[hf] <;> rfl),hf]
 refine I.write (x:=p) (e:=p) (by rw[h];trivial) (.inl rfl) (fun b u hb q=>(Heap.get?_update_other _ _ (Ne.symm hb)).trans q) ⟨_,e⟩ ?_
 exact⟨hz,its',n',r,e⟩
inductive fg (o i v:V)(H:Hp)(Q:Hp->Prop):Prop
 |mk (p:Addr) (xs:List V) (k:Int) (j:Nat) (e1:o=.ref p) (e2:i=.int k) (h:H p=some (.lst xs)) (n:ixN xs.length k=some j) (q:Q (upd H p (.lst (xs.set j v)))):fg o i v H Q
def kQ:V->V->V->Hp->(Hp->Prop)->Prop:=fun o i v H Q=>fg o i v H Q
theorem set_list:j6 X kQ:=by
 intro pins s σ H o i v ov iv u Q I ro ri rv h
 obtain⟨p,xs,k,j,rfl,rfl,hp,hj,q⟩:=h
 cases ro
 obtain⟨t,rfl⟩:=ri
 obtain⟨its,n,r,ho,hz⟩:=I.lst hp
 obtain⟨h1,h2,h3,h4⟩:=YF hj
 have hl:=r.length
 have hn:=Td
 have I':Inv X pins σ (upd H p (.lst (xs.set j v))) {s with heap:=s.heap.update p (Obj.mapSeq (·.setIfInBounds j u))}:=
  I.ir hp ho (XE its n j u) (r.set rv j) (by rw[List.length_set];exact hz) s.toks
 by_cases h0:0<=k
 ·have hk:k.toNat=j:=by
   rw[seqIndex_of h0 h4]at h1
   exact Option.some.inj h1
  exact PySem.W.ki_setAt ho h0 (by omega) (by rw[List.size_toArray,<-hl];exact h4) (by rw[hk];exact⟨_,I',q⟩)
 ·have hk:(k+(its.toArray.size:Int)).toNat=j:=by
   rw[seqIndex_neg (by omega) h3]at h1
   rw[List.size_toArray,<-hl]
   exact Option.some.inj h1
  exact PySem.W.ki_setBack ho (by omega) (by rw[List.size_toArray,<-hl];exact h3) (by omega) (by rw[hk];exact⟨_,I',q⟩)
theorem Tn (lo hi:Option Int)(n:Nat):(sliceBounds lo hi none n).1=((HT.sIx n 0 lo:Nat):Int)/\(sliceBounds lo hi none n).2.1=((HT.sIx n n hi:Nat):Int)/\(sliceBounds lo hi none n).2.2=1:=by
 refine⟨?_,?_,rfl⟩
 ·cases lo with
  |none=>simp[sliceBounds,HT.sIx]
  |some i=>
   simp only[sliceBounds,HT.sIx,Option.getD_none,show(1:Int)>0 by decide,if_true]
   by_cases h:i<0
   ·simp only[h,if_true] <;> omega
   ·simp only[h,if_false] <;> omega
 ·cases hi with
  |none=>simp[sliceBounds,HT.sIx]
  |some i=>
   simp only[sliceBounds,HT.sIx,Option.getD_none,show(1:Int)>0 by decide,if_true]
   by_cases h:i<0
   ·simp only[h,if_true] <;> omega
   ·simp only[h,if_false] <;> omega
theorem Qw (its:List Value)(lo hi:Option Int):slicePick its.toArray lo hi none=((its.drop (HT.sIx its.length 0 lo)).take (HT.sIx its.length its.length hi - HT.sIx its.length 0 lo)).toArray:=by
 obtain⟨h1,h2,h3⟩:=Tn lo hi its.toArray.size
 unfold slicePick
 rw[h1,h2,h3]
 simp only[sliceRange_one,pick_run,List.size_toArray] <;> rfl
def dR (K:PySem.W.Frag):V->Option Int->Option Int->Hp->VK->Prop:=fun x lo hi H Q=>∃a xs,x=.ref a/\SqL K H a xs/\∀p,H p=none->Q (.ref p) (upd H p (.lst (Kj xs lo hi)))
theorem FD:SlR X (dR X.K):=by
 intro pins s σ H x v vl vu lo hi sl Q I rx hs pl pu h
 obtain⟨a,xs,rfl,hx,q⟩:=h
 cases rx
 obtain⟨its,r,ht,hz⟩:=I.list hx
 have hlen:=r.length
 refine⟨"list",_,slot_list_getitem.lookup,ht.isList.typeIs,?_⟩
 refine wpAny_getItem_list_slice ht.isList hs pl pu .none (by simp) ?_ (by rw[List.size_toArray] <;> omega)
 rw[Qw,<-hlen]
 refine⟨.ref s.heap.objs.size,_,I.laid (t':=s.toks) (o:=.lst (Kj xs lo hi)) (fun b ob q=>Heap.get?_push_of_some _ q) (Nat.le_refl _) ?_,rfl,q _ (I.hok.fresh (Nat.le_refl _))⟩
 exact⟨Nat.le_trans (VS xs lo hi) hz,_,0,(r.drop (HT.sIx xs.length 0 lo)).take (HT.sIx xs.length xs.length hi - HT.sIx xs.length 0 lo),Heap.get?_push_size _ rfl⟩
def GG:V->Bool
 | .non=>true
 | .bl _=>true
 | .int _=>true
 | .str _=>true
 |_=>false
def eqV:V->V->Bool
 | .non,.non=>true
 | .bl a,.bl b=>a == b
 | .bl a,.int b=>(if a then 1 else 0) == b
 | .int a,.bl b=>a == (if b then 1 else 0)
 | .int a,.int b=>a == b
 | .str a,.str b=>a == b
 |_,_=>false
theorem iu (ry:RelV y u)(rx:RelV x v)(fy:GG y=true)(fx:GG x=true):SeqAt.EqAt A s u v (eqV y x):=by
 cases y with
 |non=>
  cases ry
  cases x with
  |non=>cases rx;exact SeqAt.EqAt.same _
  |bl b=>cases rx;exact SeqAt.EqAt.none_bool b
  |int b=>obtain⟨t,rfl⟩:=rx;exact SeqAt.EqAt.none_int b t
  |str b=>obtain⟨t,rfl⟩:=rx;exact SeqAt.EqAt.none_str b t
  |_=>exact absurd (show false=true from fx) Bool.false_ne_true
 |bl a=>
  cases ry
  cases x with
  |non=>cases rx;exact SeqAt.EqAt.bool_none a
  |bl b=>cases rx;exact SeqAt.EqAt.bool_bool a b
  |int b=>obtain⟨t,rfl⟩:=rx;exact SeqAt.EqAt.bool_int a b t
  |str b=>obtain⟨t,rfl⟩:=rx;exact SeqAt.EqAt.bool_str a b t
  |_=>exact absurd (show false=true from fx) Bool.false_ne_true
 |int a=>
  obtain⟨t',rfl⟩:=ry
  cases x with
  |non=>cases rx;exact SeqAt.EqAt.int_none a t'
  |bl b=>cases rx;exact SeqAt.EqAt.int_bool a t' b
  |int b=>obtain⟨t,rfl⟩:=rx;exact SeqAt.EqAt.int_int a t' b t
  |str b=>obtain⟨t,rfl⟩:=rx;exact SeqAt.EqAt.int_str a t' b t
  |_=>exact absurd (show false=true from fx) Bool.false_ne_true
 |str a=>
  obtain⟨t',rfl⟩:=ry
  cases x with
  |non=>cases rx;exact SeqAt.EqAt.str_none a t'
  |bl b=>cases rx;exact SeqAt.EqAt.str_bool a t' b
  |int b=>obtain⟨t,rfl⟩:=rx;exact SeqAt.EqAt.str_int a t' b t
  |str b=>obtain⟨t,rfl⟩:=rx;exact SeqAt.EqAt.str_str a t' b t
  |_=>exact absurd (show false=true from fx) Bool.false_ne_true
 |_=>exact absurd (show false=true from fy) Bool.false_ne_true
def eqU (x:V)(u:Value):Bool:=match u with
 | .none=>eqV .non x
 | .bool b=>eqV (.bl b) x
 | .int i _=>eqV (.int i) x
 | .str z _=>eqV (.str z) x
 |_=>false
theorem To (r:RelV y u)(f:GG y=true):eqU x u=eqV y x:=by
 cases y with
 |non=>cases r;rfl
 |bl b=>cases r;rfl
 |int i=>obtain⟨t,rfl⟩:=r;rfl
 |str z=>obtain⟨t,rfl⟩:=r;rfl
 |_=>exact absurd (show false=true from f) Bool.false_ne_true
theorem Lu:∀{xs:List V}{us:List Value},Vals xs us->xs.all GG=true->us.any (eqU x)=xs.any fun y=>eqV y x
 |_,_,.nil,_=>rfl
 |y::xs,u::us,.cons r t,f=>by
  rw[List.all_cons,Bool.and_eq_true]at f
  rw[List.any_cons,List.any_cons,To r f.1,Lu t f.2]
theorem HZ (rx:RelV x v)(fx:GG x=true):∀{xs:List V}{us:List Value},Vals xs us->xs.all GG=true->∀u∈us,SeqAt.EqAt A s u v (eqU x u)
 |_,_,.nil,_=>fun u hu=>by cases hu
 |y::xs,u::us,.cons r t,f=>fun u' hu=>by
  rw[List.all_cons,Bool.and_eq_true]at f
  rcases List.mem_cons.mp hu with rfl|hu
  ·rw[To r f.1];exact iu r rx f.1 fx
  ·exact HZ rx fx t f.2 u' hu
def inV (x:V)(xs:List V):Bool:=xs.any fun y=>eqV y x
def rIn (K:PySem.W.Frag)(neg:Bool):R2:=fun x y H Q=>∃p xs,y=.ref p/\(SqL K H p xs\/SqT K H p xs)/\GG x=true/\xs.all GG=true/\Q (.bl (if neg then !inV x xs else inV x xs)) H
theorem ZE:OpR X (compareOp .In) (rIn X.K false):=by
 intro pins s σ H x y v u Q I rx ry h
 obtain⟨p,xs,rfl,hq,fx,fs,q⟩:=h
 cases ry
 rcases hq with hq|hq
 ·obtain⟨its,r,pl,hz⟩:=I.list hq
  refine SeqAt.in_listAt (eqU x) pl.isList (fun w hw=>HZ rx fx r fs w (by simpa using hw)) ⟨.bl _,H,I,rfl,?_⟩
  rw[show its.toArray.any (eqU x)=its.any (eqU x)by simp,Lu r fs]
  exact q
 ·obtain⟨its,r,pl,hz⟩:=I.tuple hq
  refine SeqAt.in_tupleAt (eqU x) pl (fun w hw=>HZ rx fx r fs w (by simpa using hw)) ⟨.bl _,H,I,rfl,?_⟩
  rw[show its.toArray.any (eqU x)=its.any (eqU x)by simp,Lu r fs]
  exact q
theorem Tp:OpR X (compareOp .NotIn) (rIn X.K true):=by
 intro pins s σ H x y v u Q I rx ry h
 obtain⟨p,xs,rfl,hq,fx,fs,q⟩:=h
 cases ry
 rcases hq with hq|hq
 ·obtain⟨its,r,pl,hz⟩:=I.list hq
  refine SeqAt.notIn_listAt (eqU x) pl.isList (fun w hw=>HZ rx fx r fs w (by simpa using hw)) ⟨.bl _,H,I,rfl,?_⟩
  rw[show its.toArray.any (eqU x)=its.any (eqU x)by simp,Lu r fs]
  exact q
 ·obtain⟨its,r,pl,hz⟩:=I.tuple hq
  refine SeqAt.notIn_tupleAt (eqU x) pl (fun w hw=>HZ rx fx r fs w (by simpa using hw)) ⟨.bl _,H,I,rfl,?_⟩
  rw[show its.toArray.any (eqU x)=its.any (eqU x)by simp,Lu r fs]
  exact q
theorem Ai:Fm X (.builtin "len") (fun xs H Q=>∃p ys,xs=[.ref p]/\(SqL X.K H p ys\/SqT X.K H p ys)/\Q (.int ys.length) H):=by
 intro pins s σ H xs us Q I r h
 obtain⟨p,ys,rfl,hq,q⟩:=h
 obtain⟨u,rfl,rx⟩:=vals1 r
 cases rx
 have hn:=Td
 rcases hq with hq|hq
 ·obtain⟨its,r',pl,hz⟩:=I.list hq
  have hlen:=r'.length
  exact Calls.call_len_list pl.isList (by simp only[List.size_toArray] <;> omega) ⟨.int ys.length,H,I.tok _,⟨s.toks+1,by rw[List.size_toArray,hlen]⟩,q⟩
 ·obtain⟨its,r',pl,hz⟩:=I.tuple hq
  have hlen:=r'.length
  exact len_tuple pl (by simp only[List.size_toArray] <;> omega) ⟨.int ys.length,H,I.tok _,⟨s.toks+1,by rw[List.size_toArray,hlen]⟩,q⟩
theorem Qx:Fm X (.type "tuple") (fun xs H Q=>∃p ys,xs=[.ref p]/\((SqL X.K H p ys/\∀l,H l=none->Q (.ref l) (upd H l (.tup ys)))\/(SqT X.K H p ys/\Q (.ref p) H))):=by
 intro pins s σ H xs us Q I r h
 obtain⟨p,ys,rfl,h⟩:=h
 obtain⟨u,rfl,rx⟩:=vals1 r
 cases rx
 rcases h with⟨hq,q⟩|⟨hq,q⟩
 ·obtain⟨its,r',pl,hz⟩:=I.list hq
  have hlen:=r'.length
  refine call_tuple_list pl.isList (fun h' kp=>?_) (by simp only[List.size_toArray] <;> omega)
  have I1:Inv X pins σ H {s with heap:=h'}:=I.kept (t':=s.toks) kp
  have I2:Inv X pins σ (upd H h'.objs.size (.tup ys)) {s with heap:=h'.push {cls:=.type "tuple",data:=.seq its.toArray}}:=
   I1.laid (t':=s.toks) (fun b o e=>Heap.get?_push_of_some _ e) (Nat.le_refl _) (show Bk X.prog X.w _ _ _ (.tup ys)from⟨hz,its,r',IsTup.new _ _⟩)
  exact⟨.ref h'.objs.size,_,I2,rfl,q _ (I1.hok.fresh (Nat.le_refl _))⟩
 ·obtain⟨its,r',pl,hz⟩:=I.tuple hq
  exact call_tuple_same pl ⟨.ref p,H,I,rfl,q⟩
def tyV (K:PySem.W.Frag)(T:String)(x:V)(H:Hp):Prop:=match x with
 | .str _=>T="str"
 | .int _=>T="int"
 | .ref p=>(T="list"/\∃xs,SqL K H p xs)\/(T="tuple"/\∃o,K.lookup p=some o/\o.cls=.type "tuple"/\o.dict=none)\/
   (T="dict"/\((∃kvs,H p=some (.dK kvs))\/∃kvs,H p=some (.dT kvs)))\/(T="set"/\∃S n,H p=some (.set S n))
 |_=>False
theorem iw (I:Inv X pins σ H s)(r:RelV x v)(ty:tyV X.K T x H):
  s.TypeIs v T/\∀a,v=.ref a->∃ob,s.heap.get? a=some ob/\ob.dict=none:=by
 cases x with
 |str z=>
  obtain⟨t,rfl⟩:=r
  cases(show T="str" from ty)
  exact⟨typeIs_str s z t,fun _ e=>nomatch e⟩
 |int i=>
  obtain⟨t,rfl⟩:=r
  cases(show T="int" from ty)
  exact⟨typeIs_int s i t,fun _ e=>nomatch e⟩
 |ref p=>
  cases r
  rcases ty with⟨rfl,xs,hq⟩|⟨rfl,o,hk,hc,hd⟩|⟨rfl,hk⟩|⟨rfl,S,n,hk⟩
  ·obtain⟨its,_,pl,_⟩:=I.list hq
   refine⟨pl.isList.typeIs,fun a e=>?_⟩
   cases e
   obtain⟨o,n,e,c,hd,_⟩:=pl
   exact⟨o,e,hd⟩
  ·refine⟨⟨o,I.kIn p o hk,hc⟩,fun a e=>?_⟩
   cases e
   exact⟨o,I.kIn _ o hk,hd⟩
  ·have z:∃o,s.heap.get? p=some o/\o.ExactDict:=by
    rcases hk with⟨kvs,hk⟩|⟨kvs,hk⟩
    ·obtain⟨_,_,_,_,o,_,_,e,ex,_⟩:=I.hok p _ hk
     exact⟨o,e,ex⟩
    ·obtain⟨_,_,_,_,o,_,_,e,ex,_⟩:=I.hok p _ hk
     exact⟨o,e,ex⟩
   obtain⟨o,e,ex⟩:=z
   refine⟨⟨o,e,ex.1⟩,fun a e2=>?_⟩
   cases e2
   exact⟨o,e,ex.2.1⟩
  ·obtain⟨o,_,_,_,e,ex,_⟩:=I.hok p _ hk
   refine⟨⟨o,e,ex.1⟩,fun a e2=>?_⟩
   cases e2
   exact⟨o,e,ex.2.1⟩
 |_=>exact False.elim ty
def tBM (K:PySem.W.Frag)(T:String)(r:V->List V->Hp->VK->Prop)(to:TE)(t:TA):TE:=fun σ H Q=>to σ H fun x H1=>tyV K T x H1/\t σ H1 fun xs H2=>r x xs H2 Q
variable {o e:Expr}{es:List Expr}{to:TE}{t:TA}{name:Str}{apos cpos:Pos}{T id:String}{r:V->List V->Hp->VK->Prop}
theorem DD (pa:PlainAttrs T)(slot:Slot T name id)(hty:typeOf (.builtin id)=pure (.type "method_descriptor"))(hm:MtR X id r)(ho:PE X o to)(ha:PA X (e::es) t)
  (hbase:attributeBase o name X.env (eval o X.env)=eval o X.env:=by rfl)
  (hfew:((backTo cpos (starEach (e::es) X.env)).all (fun x=>!x.1)&&(backToKw cpos (keywordEach [] X.env)).all (fun x=>x.1.isSome)
   &&decide ((e::es).length+([]:List Keyword).length+(if([]:List Keyword).isEmpty then 0 else 1)<30))=true:=by rfl)
  (hline:(apos.endLine == cpos.line)=true:=by rfl)(hs:starEach (e::es) X.env=(false,eval e X.env)::starEach es X.env:=by rfl)(hplain:(backTo cpos (starEach es X.env)).any (·.1)=false:=by rfl):
  PE X (.Call (.Attribute o name apos) (e::es) [] cpos) (tBM X.K T r to t):=by
 intro pins s σ H Q I h
 refine wpAny_Call_method_late hbase hfew hline rfl (thn (ho pins s σ H _ I h) fun v s1 ⟨x,H1,I1,r1,ty,q1⟩=>?_)
 obtain⟨h1,h2⟩:=iw I1 r1 ty
 refine⟨T,id,pa,slot,hty,h1,h2,?_⟩
 have hA:=ha cpos pins s1 σ H1 _ I1 q1
 rw[hs]at hA ⊢
 refine Calls.callWith_builtin (by show(false||(backTo cpos (starEach es X.env)).any (·.1))=false;rw[hplain] <;> rfl) (Calls.evalArgs_plain ?_)
 exact thn hA fun us s2 ⟨vs,H2,I2,r2,q2⟩=>hm pins s2 σ H2 x vs v us Q I2 r1 r2 q2
end
def MtM (X:Cx)(id:String)(r:V->List V->Hp->VK->Prop):Prop:=
 ∀(pins:List (Addr×Obj)) (s:Shared) (σ:St) (H:Hp) (x:V) (xs:List V) (v:Value) (us:List Value) (Q:VK),Inv X pins σ H s->RelV x v->Vals xs us->r x xs H Q->
  wpAny (model X.prog X.w) X.A (call (.builtin id) (v::us)) (EP X pins σ Q) X.xe s
theorem Vals.one:∀{x:V}{us:List Value},Vals [x] us->∃u,us=[u]/\RelV x u
 |_,_,.cons r .nil=>⟨_,rfl,r⟩
theorem Vals.rep (h:Vals xs us):∀k:Nat,Vals (List.replicate k xs).flatten (List.replicate k us).flatten
 |0=>.nil
 |k+1=>by
  rw[List.replicate_succ,List.replicate_succ,List.flatten_cons,List.flatten_cons]
  exact Vals.append h (Vals.rep h k)
theorem foldl_rep (its:List Value):∀(k:Nat) (acc:List Value),
  List.foldl (fun x1 x2=>x1++x2) acc.toArray (List.replicate k its.toArray)=(acc++(List.replicate k its).flatten).toArray
 |0,acc=>by simp
 |k+1,acc=>by
  have e:acc.toArray++its.toArray=(acc++its).toArray:=by simp
  have e2:(acc++its)++(List.replicate k its).flatten=acc++(List.replicate (k+1) its).flatten:=by
   rw[List.replicate_succ,List.flatten_cons,List.append_assoc]
  rw[<-e2,<-foldl_rep its k (acc++its),<-e,List.replicate_succ,List.foldl_cons]
section
variable {X:Cx}{pins:List (Addr×Obj)}{σ:St}{H:Hp}{s:Shared}{l b:Addr}{xs ys zs:List V}
theorem Inv.kR {its its':List Value}{n:Nat}{f:Array Value->Array Value}{t':Nat}(I:Inv X pins σ H s)(hH:H l=some (.lst xs))
  (e:s.heap.get? l=some {cls:=.type "list",data:=.seq its.toArray n})(hf:f its.toArray=its'.toArray)(hv:Vals ys its')(hz:ys.length<=sizeLine):
  Inv X pins σ (upd H l (.lst ys)) {s with heap:=s.heap.update l (Obj.mapSeq f),toks:=t'}:=by
 have q:=PySem.IsL.update e f
 rw[hf]at q
 refine I.write (x:=l) (e:=l) (by rw[hH];exact trivial) (.inl rfl) (fun b' u hb hu=>(Heap.get?_update_other s.heap (Obj.mapSeq f) (Ne.symm hb)).trans hu) ⟨_,q⟩ ?_
 exact⟨hz,its',_,hv,q⟩
theorem Inv.kS (I:Inv X pins σ H s)(hv:Vals ys its)(hz:ys.length<=sizeLine):
  Inv X pins σ (upd H s.heap.objs.size (.lst ys)) {s with heap:=s.heap.push {cls:=.type "list",data:=.seq its.toArray},toks:=t'}:=
 I.laid (fun _ _ q=>Heap.get?_push_of_some _ q) (Nat.le_refl _) ⟨hz,its,0,hv,Heap.get?_push_size _ rfl⟩
theorem Inv.fresh (I:Inv X pins σ H s):H s.heap.objs.size=none:=I.hok.fresh (Nat.le_refl _)
theorem Inv.ZF (I:Inv X pins σ H s)(hH:H l=some (.lst xs)):xs.length<=sizeLine/\∃(its:List Value) (n:Nat),Vals xs its/\xs.length=its.length/\s.heap.get? l=some {cls:=.type "list",data:=.seq its.toArray n}:=by
 obtain⟨z,its,n,r,e⟩:=I.hok l _ hH
 exact⟨z,its,n,r,r.length,e⟩
theorem VT (h:n<=sizeLine):Builtin.List.listTooLong n=false:=by
 unfold Builtin.List.listTooLong
 exact decide_eq_false (by omega)
end
section
variable {X:Cx}
inductive kT (x:V)(vs:List V)(H:Hp)(Q:VK):Prop
 |mk (l:Addr) (xs:List V) (y:V) (e1:x=.ref l) (e2:vs=[y]) (h:H l=some (.lst xs)) (n:xs.length<sizeLine) (q:Q .non (upd H l (.lst (xs++[y])))):kT x vs H Q
def YH:V->List V->Hp->VK->Prop:=fun x vs H Q=>kT x vs H Q
theorem BM:MtM X "list.append" YH:=by
 intro pins s σ H x vs v us Q I rx rv h
 obtain⟨l,xs,y,rfl,rfl,hH,hz,q⟩:=h
 cases rx
 obtain⟨u,rfl,ru⟩:=rv.one
 obtain⟨z,its,n,r,hl,e⟩:=I.ZF hH
 refine call_meets F.slot_list_append ⟨_,e,rfl⟩ F.entry_list_append (F.args_list_append_2 _ _) (PySem.list_append l its.toArray n u (by rw[List.size_toArray];omega)) ⟨e,?_⟩
 refine⟨.non,_,I.kR (its':=its++[u]) hH e (by simp) (r.append (.cons ru .nil)) ?_,rfl,q⟩
 rw[List.length_append,List.length_singleton]
 omega
inductive kU (x:V)(vs:List V)(H:Hp)(Q:VK):Prop
 |mk (l b:Addr) (xs zs:List V) (e1:x=.ref l) (e2:vs=[.ref b]) (h:H l=some (.lst xs)) (g:H b=some (.lst zs)) (n:xs.length+zs.length<=sizeLine) (q:Q .non (upd H l (.lst (xs++zs)))):kU x vs H Q
def S9:V->List V->Hp->VK->Prop:=fun x vs H Q=>kU x vs H Q
theorem Mf:MtM X "list.extend" S9:=by
 intro pins s σ H x vs v us Q I rx rv h
 obtain⟨l,b,xs,zs,rfl,rfl,hH,hB,hz,q⟩:=h
 cases rx
 obtain⟨u,rfl,ru⟩:=rv.one
 cases ru
 obtain⟨z,its,n,r,hl,e⟩:=I.ZF hH
 obtain⟨z2,its2,n2,r2,hl2,e2⟩:=I.ZF hB
 have hsz:its.toArray.size+its2.toArray.size<=sizeLine:=by rw[List.size_toArray,List.size_toArray];omega
 have hlong:¬(!its.toArray.isEmpty&&Builtin.List.listTooLong (its.toArray.size+its2.toArray.size))=true:=by
  rw[VT hsz,Bool.and_false]
  exact Bool.false_ne_true
 refine call_meets F.slot_list_extend ⟨_,e,rfl⟩ F.entry_list_extend (F.args_list_extend_2 _ _)
  (AutoSeq1.list_extend_list_list_0 l its.toArray n b its2.toArray n2 hlong (by rw[List.size_toArray];omega) (by omega)) ⟨e,e2,?_⟩
 refine⟨.non,_,I.kR (its':=its++its2) hH e (by simp) (r.append r2) ?_,rfl,q⟩
 rw[List.length_append]
 omega
def iy:R2:=fun x y H Q=>∃l b xs zs,x=.ref l/\y=.ref b/\H l=some (.lst xs)/\H b=some (.lst zs)/\xs.length+zs.length<=sizeLine/\∀p,H p=none->Q (.ref p) (upd H p (.lst (xs++zs)))
theorem JU:OpR X (binaryOp .Add) iy:=by
 intro pins s σ H x y v u Q I rx ry h
 obtain⟨l,b,xs,zs,rfl,rfl,hH,hB,hz,q⟩:=h
 cases rx
 cases ry
 obtain⟨z,its,n,r,hl,e⟩:=I.ZF hH
 obtain⟨z2,its2,n2,r2,hl2,e2⟩:=I.ZF hB
 refine PySem.P.add_list e e2 ?_ (by rw[List.size_toArray,List.size_toArray];omega)
 have ea:its.toArray++its2.toArray=(its++its2).toArray:=by simp
 rw[ea]
 exact⟨.ref _,_,I.kS (t':=s.toks) (r.append r2) (by rw[List.length_append];omega),rfl,q _ I.fresh⟩
def mn:R2:=fun x y H Q=>∃l k xs,x=.ref l/\y=.int k/\H l=some (.lst xs)/\-(2 ^ 63)<=k/\k<2 ^ 63/\xs.length*k.toNat<=sizeLine/\
 ∀p,H p=none->Q (.ref p) (upd H p (.lst (List.replicate k.toNat xs).flatten))
theorem len_rep (xs:List α)(k:Nat):(List.replicate k xs).flatten.length=k*xs.length:=by
 induction k with
 |zero=>simp
 |succ k ih=>rw[List.replicate_succ,List.flatten_cons,List.length_append,ih,Nat.succ_mul,Nat.add_comm]
theorem XF:OpR X (binaryOp .Mult) mn:=by
 intro pins s σ H x y v u Q I rx ry h
 obtain⟨l,k,xs,rfl,rfl,hH,h1,h2,hz,q⟩:=h
 cases rx
 obtain⟨t,rfl⟩:=ry
 obtain⟨z,its,n,r,hl,e⟩:=I.ZF hH
 have hlen:its.toArray.size*k.toNat<=sizeLine:=by rw[List.size_toArray,<-hl];exact hz
 have hcap:¬its.toArray.size*k.toNat>(2 ^ 63 - 1) / 8:=by
  have:(sizeLine:Nat)<=(2 ^ 63 - 1) / 8:=by decide
  omega
 have hfit:¬(!Builtin.List.listFitsIndex k)=true:=by
  rw[fitsIndex_both h1 h2]
  exact Bool.false_ne_true
 have hlong:¬Builtin.List.listTooLong (its.toArray.size*k.toNat)=true:=by
  rw[VT hlen]
  exact Bool.false_ne_true
 have hnew:List.foldl (fun x1 x2=>x1++x2) #[] (List.replicate (if its.toArray.isEmpty=true then 0 else k.toNat) its.toArray)=(List.replicate k.toNat its).flatten.toArray:=by
  have f0:∀m:Nat,List.foldl (fun x1 x2=>x1++x2) #[] (List.replicate m its.toArray)=(List.replicate m its).flatten.toArray:=fun m=>by
   have:=foldl_rep its m []
   rw[List.nil_append]at this
   exact this
  rw[f0]
  cases its with
  |nil=>simp
  |cons a r'=>rw[if_neg (by simp)]
 refine wpAny_binaryOp_repeat_ref (T:="list") (U:="int") (by decide) ⟨_,e,rfl⟩ (fun s'=>typeIs_int s' k t) noFill_list_mul F.fills_int_mul F.slot_int_rmul repeat_list F.slot_int_index.lookup
  (call_meets F.slot_int_rmul (typeIs_int s k t) F.entry_int_rmul (F.args_int_rmul_2 _ _) (int___rmul___int_list k t l its.toArray n)
   ⟨e,rfl,⟨_,e,rfl⟩,call_meets F.slot_list_mul ⟨_,e,rfl⟩ F.entry_list_mul (F.args_list_mul_2 _ _) (AutoListH.list___mul___list_int_3 l its.toArray n k t hfit hcap hlong) ⟨e,?_⟩⟩)
 rw[hnew]
 exact⟨.ref _,_,I.kS (t':=s.toks) (r.rep k.toNat) (by rw[len_rep,Nat.mul_comm];exact hz),rfl,q _ I.fresh⟩
end
section
variable {prog:Program}{w:World}{A:Around}{E:Value->Shared->Prop}{s:Shared}
set_option maxRecDepth 100000 in
end
section
variable {X:Cx}
end
theorem Vals.ints:∀{ns:List Int}{us:List Value},Vals (ns.map V.int) us->IntsAre us ns
 |[],us,h=>by
  rw[List.map_nil]at h
  cases h
  exact IntsAre.nil
 |n::ns,us,h=>by
  rw[List.map_cons]at h
  cases h with
  |cons r t=>
   obtain⟨k,rfl⟩:=r
   exact IntsAre.cons n k (Vals.ints t)
theorem Hy:∀{us:List Value}{ns:List Int},IntsAre us ns->Vals (ns.map V.int) us
 |_,_,.nil=>by rw[List.map_nil];exact Paired.nil
 |_,_,.cons n t h=>by rw[List.map_cons];exact Paired.cons (show RelV (V.int n) (Value.int n t)from⟨t,rfl⟩) (Hy h)
theorem Vals.ZG (r:Vals [V.ref a] us):us=[Value.ref a]:=by
 cases r with
 |cons r t=>
  cases t
  cases r
  rfl
section
variable {prog:Program}{w:World}{A:Around}{E:Value->Shared->Prop}{s:Shared}{l:Addr}{its:List Value}{ns:List Int}{Q:Value->Shared->Prop}
theorem dS (hh:A.handled=none)(hl:s.heap.IsList l its.toArray)(hi:IntsAre its ns)
  (h:∀h' tk t',(∀b o,s.heap.get? b=some o->h'.get? b=some o)->Q (.int ns.sum t') {s with heap:=h',toks:=tk}):wpAny (model prog w) A (call (.builtin "sum") [.ref l]) Q E s:=by
 obtain⟨xs,e⟩:=hi.allInts.items
 have hn:numsOf (intItems xs).toList=ns:=by rw[<-e];exact hi.numsOf
 rw[nums_intItems]at hn
 rw[e]at hl
 refine PySem.sum_intListG hh hl fun h' tk t' hk=>?_
 have:=h h' tk t' hk
 rw[preSum_eq,List.take_of_length_le (by simp),hn];exact this
theorem dU (hh:A.handled=none)(hl:s.heap.IsList l its.toArray)(hi:IntsAre its ns)(hne:0<ns.length)
  (h:∀h' tk M t',(∀b o,s.heap.get? b=some o->h'.get? b=some o)->M∈ns->(∀a,a∈ns->a<=M)->Q (.int M t') {s with heap:=h',toks:=tk}):wpAny (model prog w) A (call (.builtin "max") [.ref l]) Q E s:=by
 obtain⟨xs,e⟩:=hi.allInts.items
 have hn:numsOf (intItems xs).toList=ns:=by rw[<-e];exact hi.numsOf
 rw[nums_intItems]at hn
 subst hn
 rw[e]at hl
 have hsz:0<xs.size:=by simpa using hne
 refine PySem.max_intList hh hl hsz fun v h' tk hv hk=>?_
 obtain⟨t,rfl⟩:=intItems_at hv
 obtain⟨h1,h2⟩:=argBest_gt (numAt xs) (xs.size - 1)
 refine h h' tk _ t hk ?_ fun a ha=>?_
 ·rw[numAt_eq];exact PySem.getD_mem (by rw[List.length_map,Array.length_toList];omega)
 ·obtain⟨j,hj,rfl⟩:=mem_getD ha
  rw[List.length_map,Array.length_toList]at hj
  rw[<-numAt_eq];exact h2 j (by omega)
theorem dW (hh:A.handled=none)(hl:s.heap.IsList l its.toArray)(hi:IntsAre its ns)(hne:0<ns.length)
  (h:∀h' tk M t',(∀b o,s.heap.get? b=some o->h'.get? b=some o)->M∈ns->(∀a,a∈ns->M<=a)->Q (.int M t') {s with heap:=h',toks:=tk}):wpAny (model prog w) A (call (.builtin "min") [.ref l]) Q E s:=by
 obtain⟨xs,e⟩:=hi.allInts.items
 have hn:numsOf (intItems xs).toList=ns:=by rw[<-e];exact hi.numsOf
 rw[nums_intItems]at hn
 subst hn
 rw[e]at hl
 have hsz:0<xs.size:=by simpa using hne
 refine PySem.min_intList hh hl hsz fun v h' tk hv hk=>?_
 obtain⟨t,rfl⟩:=intItems_at hv
 obtain⟨h1,h2⟩:=argBest_lt (numAt xs) (xs.size - 1)
 refine h h' tk _ t hk ?_ fun a ha=>?_
 ·rw[numAt_eq];exact PySem.getD_mem (by rw[List.length_map,Array.length_toList];omega)
 ·obtain⟨j,hj,rfl⟩:=mem_getD ha
  rw[List.length_map,Array.length_toList]at hj
  rw[<-numAt_eq];exact h2 j (by omega)
end
section
variable {X:Cx}
inductive kW (K:PySem.W.Frag)(vs:List V)(H:Hp)(Q:VK):Prop
 |mk (a:Addr) (ns:List Int) (e:vs=[V.ref a]) (s:SqL K H a (ns.map V.int)) (q:Q (.int ns.sum) H):kW K vs H Q
def mq (K:PySem.W.Frag):List V->Hp->VK->Prop:=fun vs H Q=>kW K vs H Q
def mr (K:PySem.W.Frag):List V->Hp->VK->Prop:=fun vs H Q=>∃(a:Addr) (ns:List Int),vs=[V.ref a]/\SqL K H a (ns.map V.int)/\0<ns.length/\∀m,m∈ns->(∀y,y∈ns->y<=m)->Q (.int m) H
def mv (K:PySem.W.Frag):List V->Hp->VK->Prop:=fun vs H Q=>∃(a:Addr) (ns:List Int),vs=[V.ref a]/\SqL K H a (ns.map V.int)/\0<ns.length/\∀m,m∈ns->(∀y,y∈ns->m<=y)->Q (.int m) H
theorem O5 (hc:X.calm=true):Fm X (.builtin "sum") (mq X.K):=by
 intro pins s σ H vs us Q I r h
 obtain⟨a,ns,rfl,hs,q⟩:=h
 obtain⟨its,rv,hl,_⟩:=I.list hs
 rw[Vals.ZG r]
 exact dS (I.ok.hd hc) hl.isList rv.ints fun h' tk t' hk=>⟨.int _,H,I.kept hk,⟨_,rfl⟩,q⟩
theorem iz (hc:X.calm=true):Fm X (.builtin "max") (mr X.K):=by
 intro pins s σ H vs us Q I r h
 obtain⟨a,ns,rfl,hs,hne,q⟩:=h
 obtain⟨its,rv,hl,_⟩:=I.list hs
 rw[Vals.ZG r]
 exact dU (I.ok.hd hc) hl.isList rv.ints hne fun h' tk m t' hk h1 h2=>⟨.int _,H,I.kept hk,⟨_,rfl⟩,q m h1 h2⟩
theorem i3 (hc:X.calm=true):Fm X (.builtin "min") (mv X.K):=by
 intro pins s σ H vs us Q I r h
 obtain⟨a,ns,rfl,hs,hne,q⟩:=h
 obtain⟨its,rv,hl,_⟩:=I.list hs
 rw[Vals.ZG r]
 exact dW (I.ok.hd hc) hl.isList rv.ints hne fun h' tk m t' hk h1 h2=>⟨.int _,H,I.kept hk,⟨_,rfl⟩,q m h1 h2⟩
def dX (K:PySem.W.Frag):List V->Hp->VK->Prop:=fun vs H Q=>∃(a:Addr) (ns:List Int),vs=[V.ref a]/\SqL K H a (ns.map V.int)/\ns.length<64/\
 ∀(ns':List Int) (p:Addr),ns'.Perm ns->ns'.Pairwise (·<=·)->H p=none->Q (.ref p) (upd H p (.lst (ns'.map V.int)))
theorem YI (h:n<64):n<=sizeLine:=by rw[sizeLine_eq];omega
theorem ZH:Fm X (.builtin "sorted") (dX X.K):=by
 intro pins s σ H vs us Q I r h
 obtain⟨a,ns,rfl,hs,h64,q⟩:=h
 obtain⟨its,rv,hl,_⟩:=I.list hs
 rw[Vals.ZG r]
 have hi:=rv.ints
 refine PyProof.Rows.sorted_ints hl.isList hi (by rw[hi.length];exact h64) fun out ns' h1 h2 h3=>?_
 obtain⟨ep,he'⟩:=PyProof.Rows.sortedAll_at s.heap its out
 have hlen:(ns'.map V.int).length<=sizeLine:=by rw[List.length_map,h2.length_eq];exact YI h64
 exact⟨.ref _,upd H (s.heap.objs.size+1) (.lst (ns'.map V.int)),I.laid (t':=s.toks) (fun _ _=>PyProof.Rows.sortedAll_old) (Nat.le_succ _) ⟨hlen,out.toList,ep,Hy h1,he'⟩,rfl,q ns' _ h2 h3 (I.hok.fresh (Nat.le_succ _))⟩
def i4 (K:PySem.W.Frag):V->List V->Hp->VK->Prop:=fun x xs H Q=>∃(a:Addr) (ys:List V) (y:V) (j:Nat) (z:V),x=V.ref a/\xs=[y]/\SqL K H a ys/\GG y=true/\ys.all GG=true/\ys[j]? =some z/\eqV z y=true/\
 (∀(m:Nat) (z':V),m<j->ys[m]? =some z'->eqV z' y=false)/\Q (.int (j:Nat)) H
theorem Lv {ys:List V}(f:ys.all GG=true){j:Nat}{z:V}(h:ys[j]? =some z):GG z=true:=List.all_eq_true.mp f z (List.mem_of_getElem? h)
theorem Oj:MtR X "list.index" (i4 X.K):=by
 intro pins s σ H x xs v us Q I rx rxs h
 obtain⟨a,ys,y,j,z,rfl,rfl,hs,fy,fys,hz,hzj,hno,q⟩:=h
 cases rx
 cases rxs with
 |cons ry rt=>
  rename_i uy ut
  cases rt
  obtain⟨its,rv,⟨⟨cls,dd,data,sl⟩,n,ho,hc,hdn,hd⟩,hlen⟩:=I.list hs
  simp only at hc hd
  subst hc hd
  obtain⟨u,hu,ru⟩:=rv.get hz
  obtain⟨hjl,hje⟩:=List.getElem?_eq_some_iff.mp hu
  have hvl:=rv.length
  have hj:j<its.toArray.size:=by simpa using hjl
  have hsl:=sizeLine_eq
  refine call_meets PySem.F.slot_list_index ⟨_,ho,rfl⟩ PySem.F.entry_list_index (PySem.F.args_list_index_2 _ _)
   (SeqAt.list_indexAt a its.toArray n dd sl uy (eqU y) j hj (by omega) ?_ ?_) ⟨ho,fun u' hu'=>HZ ry fy rv fys u' (by simpa using hu'),?_⟩
  ·have e1:its.toArray[j]=u:=by simpa using hje
   rw[e1,To ru (Lv fys hz)]
   exact hzj
  ·intro m hm hmj
   have hml:m<its.length:=by simpa using hm
   have hmy:m<ys.length:=by omega
   have hy':ys[m]? =some ys[m]:=List.getElem?_eq_getElem hmy
   obtain⟨u2,hu2,ru2⟩:=rv.get hy'
   obtain⟨_,hme⟩:=List.getElem?_eq_some_iff.mp hu2
   have e1:its.toArray[m]=u2:=by simpa using hme
   rw[e1,To ru2 (Lv fys hy')]
   exact hno m _ hmj hy'
  ·exact⟨.int (j:Nat),H,I.tok _,⟨_,rfl⟩,q⟩
end
section
variable {X:Cx}{pins:List (Addr×Obj)}{σ:St}{H:Hp}{s:Shared}
end
section
variable {X:Cx}
end
abbrev aZ (h:Heap)(c:Addr)(v:Option Value):Prop:=h.IsCell c v
def mw (scope sc:Scope):Scope:=
 {scope with names:=scope.names.map fun(n,k)=>if(k == .free&&sc.kind == .function&&sc.names.lookup n == some .cell)then(n,.cell)else(n,k)}
def A1 (cells:List (Str×Addr)):List (Str×NameKind)->List (Str×Addr)->List (Str×Addr)
 |[],acc=>acc
 |(n,k)::r,acc=>if k == .free then A1 cells r ((n,(cells.lookup n).getD 0)::acc)else A1 cells r acc
theorem Lw (env:Env)(f:Str×NameKind->List (Str×Addr)->Sem (ForInStep (List (Str×Addr))))
  (hf:∀n k c,f (n,k) c=if k == .free then(do let a <-cellOf env n;pure (.yield ((n,a)::c)))else pure (.yield c)):
  ∀(names:List (Str×NameKind)) (acc:List (Str×Addr)),(∀y∈names,y.2=.free->∃c,env.cells.lookup y.1=some c)->forIn names acc f=pure (A1 env.cells names acc)
 |[],acc,_=>by rw[List.forIn_nil];rfl
 |(n,k)::r,acc,h=>by
  rw[List.forIn_cons,hf]
  have ih:=fun acc=>Lw env f hf r acc fun y hy=>h y (List.mem_cons_of_mem _ hy)
  unfold A1
  by_cases hk:(k == NameKind.free)=true
  ·rw[if_pos hk,if_pos hk]
   obtain⟨c,hc⟩:=h (n,k) List.mem_cons_self (by simpa using hk)
   have e:cellOf env n=pure c:=by unfold cellOf;rw[hc]
   rw[e]
   have e2:(env.cells.lookup n).getD 0=c:=by rw[hc];rfl
   rw[e2]
   exact ih _
  ·rw[if_neg hk,if_neg hk]
   exact ih _
theorem O6 (h:∀y∈scope.names,y.2=.free->∃c,env.cells.lookup y.1=some c):closureFor scope env=pure (A1 env.cells scope.names []):=by
 simp only[closureFor]
 rw[Lw env _ (fun n k c=>rfl) scope.names [] h]
 rfl
theorem mem_lookup:∀{l:List (Str×α)}{n:Str}{c:α},(n,c)∈l->∃c',l.lookup n=some c'
 |(k,v)::r,n,c,h=>by
  rw[List.lookup_cons]
  cases hb:n == k with
  |true=>exact⟨_,rfl⟩
  |false=>
   rcases List.mem_cons.mp h with e|h
   ·cases e;simp at hb
   ·exact mem_lookup h
theorem GR:∀{names:List (Str×NameKind)}{acc:List (Str×Addr)}{n:Str}{c:Addr},(n,c)∈A1 cells names acc->(n,c)∈acc\/((n,.free)∈names/\c=(cells.lookup n).getD 0)
 |[],_,_,_,h=>.inl h
 |(m,k)::r,acc,n,c,h=>by
  unfold A1 at h
  split at h
  ·rename_i hk
   have hk:k=.free:=by simpa using hk
   rcases GR h with h|⟨h1,h2⟩
   ·rcases List.mem_cons.mp h with e|h
    ·cases e;exact .inr ⟨hk▸List.mem_cons_self,rfl⟩
    ·exact .inl h
   ·exact .inr ⟨List.mem_cons_of_mem _ h1,h2⟩
  ·rcases GR h with h|⟨h1,h2⟩
   ·exact .inl h
   ·exact .inr ⟨List.mem_cons_of_mem _ h1,h2⟩
theorem JV:∀{names:List (Str×NameKind)}{acc:List (Str×Addr)}{p:Str×Addr},p∈acc->p∈A1 cells names acc
 |[],_,_,h=>h
 |(m,k)::r,acc,p,h=>by
  unfold A1
  split
  ·exact JV (List.mem_cons_of_mem _ h)
  ·exact JV h
theorem JW:∀{names:List (Str×NameKind)}{acc:List (Str×Addr)}{n:Str},(n,.free)∈names->(n,(cells.lookup n).getD 0)∈A1 cells names acc
 |(m,k)::r,acc,n,h=>by
  unfold A1
  rcases List.mem_cons.mp h with e|h
  ·cases e
   exact JV List.mem_cons_self
  ·split
   ·exact JW h
   ·exact JW h
theorem Ha:∀{names:List (Str×NameKind)}{h:Heap}{acc:List (Str×Addr)}{x:Str}{c:Addr},(x,c)∈cellsFrom h.objs.size names acc->
  (x,c)∈acc\/((x,.cell)∈names/\h.objs.size<=c/\aZ (pushCells h names) c none)
 |[],_,_,_,_,h=>.inl h
 |(n,k)::r,h,acc,x,c,hm=>by
  unfold cellsFrom at hm
  unfold pushCells
  split at hm
  ·rename_i hk
   rw[if_pos hk]
   have hk:k=.cell:=by simpa using hk
   rw[<-Heap.size_push h {cls:=.type "cell",data:=.cell none}]at hm
   rcases Ha hm with hm|⟨h1,h2,h3⟩
   ·rcases List.mem_cons.mp hm with e|hm
    ·cases e
     exact .inr ⟨hk▸List.mem_cons_self,Nat.le_refl _,_,pushCells_keeps r _ _ _ (Heap.get?_push_size _ rfl),rfl⟩
    ·exact .inl hm
   ·rw[Heap.size_push]at h2
    exact .inr ⟨List.mem_cons_of_mem _ h1,Nat.le_of_succ_le h2,h3⟩
  ·rename_i hk
   rw[if_neg hk]
   rcases Ha hm with hm|⟨h1,h2,h3⟩
   ·exact .inl hm
   ·exact .inr ⟨List.mem_cons_of_mem _ h1,h2,h3⟩
theorem KP:∀{names:List (Str×NameKind)}{n:Nat}{acc:List (Str×Addr)}{p:Str×Addr},p∈acc->p∈cellsFrom n names acc
 |[],_,_,_,h=>h
 |(m,k)::r,n,acc,p,h=>by
  unfold cellsFrom
  split
  ·exact KP (List.mem_cons_of_mem _ h)
  ·exact KP h
theorem Mq:∀{names:List (Str×NameKind)}{n:Nat}{acc:List (Str×Addr)}{x:Str},(x,.cell)∈names->∃c,(x,c)∈cellsFrom n names acc
 |(m,k)::r,n,acc,x,h=>by
  unfold cellsFrom
  rcases List.mem_cons.mp h with e|h
  ·cases e
   exact⟨n,KP List.mem_cons_self⟩
  ·split
   ·exact Mq h
   ·exact Mq h
theorem Mr:∀{names:List (Str×NameKind)}{h:Heap}{acc:List (Str×Addr)}{x y:Str}{c:Addr},(∀p∈acc,p.2<h.objs.size)->(∀x y c,(x,c)∈acc->(y,c)∈acc->x=y)->
  (x,c)∈cellsFrom h.objs.size names acc->(y,c)∈cellsFrom h.objs.size names acc->x=y
 |[],_,_,_,_,_,_,hi,h1,h2=>hi _ _ _ h1 h2
 |(n,k)::r,h,acc,x,y,c,hl,hi,h1,h2=>by
  unfold cellsFrom at h1 h2
  split at h1
  ·rename_i hk
   rw[if_pos hk]at h2
   rw[<-Heap.size_push h {cls:=.type "cell",data:=.cell none}]at h1 h2
   refine Mr (h:=h.push _) (fun p hp=>?_) (fun x y c a b=>?_) h1 h2
   ·rw[Heap.size_push]
    rcases List.mem_cons.mp hp with rfl|hp
    ·exact Nat.lt_succ_self _
    ·exact Nat.lt_succ_of_lt (hl p hp)
   ·rcases List.mem_cons.mp a with e|a <;> rcases List.mem_cons.mp b with e'|b
    ·cases e;cases e';rfl
    ·cases e;exact absurd (hl _ b) (Nat.lt_irrefl _)
    ·cases e';exact absurd (hl _ a) (Nat.lt_irrefl _)
    ·exact hi _ _ _ a b
  ·rename_i hk
   rw[if_neg hk]at h2
   exact Mr hl hi h1 h2
theorem NV {M:Model}{A:Around}{E:Value->Shared->Prop}{s:Shared}{scope:Scope}{globals:Addr}{closure:List (Str×Addr)}{qual:Str}{func:Option Addr}{code:Value}{around:Env}{builtins:Addr}{Q:Env->Shared->Prop}
  (h:Q (newEnv scope s.heap.objs.size globals (cellsFrom (s.heap.objs.size+1) scope.names closure) qual func code (some around) builtins)
   {s with heap:=pushCells (s.heap.push {cls:=.type "dict",data:=.dict #[]}) scope.names}):
  wpAny M A (newFunctionEnv scope globals closure [] qual func code (some around) builtins) Q E s:=by
 simp only[newFunctionEnv,Option.isSome_some,if_true]
 refine wpAny_bind (wpAny_alloc ?_)
 refine wpAny_bind (wpAny_layCells _ (fun n k c=>rfl) scope.names closure _ _ ?_)
 rw[show({s with heap:=s.heap.push {cls:=.type "dict",data:=.dict #[]}}:Shared).heap.objs.size=s.heap.objs.size+1 from Heap.size_push ..]
 rw[List.forIn_nil]
 exact wpAny_bind (wpAny_pure (wpAny_pure h))
theorem JX {sc:Scope}:∀{names:List (Str×NameKind)}{x:Str}{k:NameKind},
  (names.map fun(n,k)=>if(k == NameKind.free&&sc.kind == .function&&sc.names.lookup n == some .cell)then(n,NameKind.cell)else(n,k)).lookup x=some k->
  ∃k',names.lookup x=some k'/\(k=k'\/(k'=.free/\k=.cell))
 |[],_,_,h=>by simp at h
 |(n,k₀)::r,x,k,h=>by
  have ih:=@JX sc r x k
  have h':List.lookup x ((if(k₀ == NameKind.free&&sc.kind == .function&&sc.names.lookup n == some .cell)=true then(n,NameKind.cell)else(n,k₀))::(r.map _))=some k:=h
  cases hx:x == n with
  |true=>
   simp only[List.lookup_cons,hx]
   by_cases hc:(k₀ == NameKind.free&&sc.kind == .function&&sc.names.lookup n == some .cell)=true
   ·rw[if_pos hc]at h'
    simp only[List.lookup_cons,hx]at h'
    cases h'
    simp only[Bool.and_eq_true,beq_iff_eq]at hc
    exact⟨k₀,rfl,.inr ⟨hc.1.1,rfl⟩⟩
   ·rw[if_neg hc]at h'
    simp only[List.lookup_cons,hx]at h'
    cases h'
    exact⟨_,rfl,.inl rfl⟩
  |false=>
   simp only[List.lookup_cons,hx]
   by_cases hc:(k₀ == NameKind.free&&sc.kind == .function&&sc.names.lookup n == some .cell)=true
   ·rw[if_pos hc]at h'
    simp only[List.lookup_cons,hx]at h'
    exact ih h'
   ·rw[if_neg hc]at h'
    simp only[List.lookup_cons,hx]at h'
    exact ih h'
structure GI (N:List Str)(sc scope:Scope)(own:List (Str×Nat)):Prop where
 kind:scope.kind=.function
 uniq:∀y∈scope.names,scope.names.lookup y.1=some y.2
 ix:∀p∈own,N[p.2]? =some p.1
 free:∀y∈scope.names,y.2=.free->sc.names.lookup y.1=some .cell\/sc.names.lookup y.1=some .free
 own:∀y∈scope.names,y.2=.local\/y.2=.cell->y.1∈own.map (·.1)\/y.1∉N
def wipe (σ:St):List Nat->St
 |[]=>σ
 |v::vs=>(wipe σ vs).set v none
theorem GS (σ:St):∀vs:List Nat,(wipe σ vs).length=σ.length
 |[]=>rfl
 |v::vs=>by unfold wipe;rw[List.length_set,GS σ vs]
theorem KQ:∀{vs:List Nat},(wipe σ vs)[i]? =some (some x)->σ[i]? =some (some x)/\i∉vs
 |[],h=>⟨h,by simp⟩
 |v::vs,h=>by
  unfold wipe at h
  by_cases hi:v=i
  ·subst hi
   by_cases hv:v<(wipe σ vs).length
   ·rw[List.getElem?_set_self hv]at h;cases h
   ·rw[List.getElem?_eq_none (by simpa using hv)]at h;cases h
  ·rw[List.getElem?_set_ne hi]at h
   obtain⟨h1,h2⟩:=KQ h
   exact⟨h1,by simp only[List.mem_cons,not_or];exact⟨fun e=>hi e.symm,h2⟩⟩
abbrev Cx.blk (X:Cx)(s:Shared)(H:Hp)(scope:Scope)(cenv:Env)(fp:List Addr):Cx:={X with s_0:=s,H_0:=H,env:=cenv,outer:=X.stack,ex:=fp,fn:=fun x=>scope.names.lookup x == some .cell,pn:=[],xe:=fun _ _=>False}
section
variable {X:Cx}{pins:List (Addr×Obj)}{σ:St}{H:Hp}{s:Shared}
theorem NW {scope:Scope}{own:List (Str×Nat)}{fp:List Addr}(I:Inv X pins σ H s)(ok:GI X.N X.env.scope scope own)(hN:X.N.Nodup)(hfp:∀b∈fp,Ki X pins H b/\b<s.heap.objs.size):
  Inv (X.blk s H scope (compEnvC scope (cellsFrom (s.heap.objs.size+1) scope.names (A1 X.env.cells scope.names [])) s.heap.objs.size X.env) fp) [] (wipe σ (own.map (·.2))) H {s with heap:=pushCells (s.heap.push {cls:=.type "dict",data:=.dict #[]}) scope.names}:=by
 have hfree:∀y∈scope.names,y.2=.free->∃c,X.env.cells.lookup y.1=some c:=fun y hy e=>by
  rcases ok.free y hy e with k|k
  ·exact I.ok.has _ (.inl k)
  ·exact I.ok.has _ (.inr k)
 generalize hcenv:compEnvC scope (cellsFrom (s.heap.objs.size+1) scope.names (A1 X.env.cells scope.names [])) s.heap.objs.size X.env=cenv
 have kp:∀b o,s.heap.get? b=some o->(pushCells (s.heap.push {cls:=.type "dict",data:=.dict #[]}) scope.names).get? b=some o:=fun b o e=>pushCells_keeps _ _ _ _ (Heap.get?_push_of_some _ e)
 have hL:cenv.locals=s.heap.objs.size:=by rw[<-hcenv];rfl
 have hcl:cenv.cells=cellsFrom (s.heap.objs.size+1) scope.names (A1 X.env.cells scope.names []):=by rw[<-hcenv];rfl
 have hsc:cenv.scope=mw scope X.env.scope:=by rw[<-hcenv];rfl
 rw[<-Heap.size_push s.heap {cls:=.type "dict",data:=.dict #[]}]at hcl
 have cm:∀{y c},(y,c)∈A1 X.env.cells scope.names []->X.env.cells.lookup y=some c/\c<s.heap.objs.size:=fun{y c} hm=>by
  rcases GR hm with hm|⟨h1,rfl⟩
  ·cases hm
  ·obtain⟨c,hc⟩:=hfree _ h1 rfl
   rw[hc]
   obtain⟨w,z⟩:=I.cell _ _ hc
   exact⟨rfl,z.lt⟩
 have mem:∀{y c},cenv.cells.lookup y=some c->(X.env.cells.lookup y=some c/\c<s.heap.objs.size)\/(s.heap.objs.size+1<=c/\aZ (pushCells (s.heap.push {cls:=.type "dict",data:=.dict #[]}) scope.names) c none):=fun{y c} e=>by
  rw[hcl]at e
  rcases Ha (PySem.mem_of_lookup e)with hm|⟨_,h2,h3⟩
  ·exact .inl (cm hm)
  ·rw[Heap.size_push]at h2;exact .inr ⟨h2,h3⟩
 have look:∀{y},scope.names.lookup y=some .free->∃c,cenv.cells.lookup y=some c/\X.env.cells.lookup y=some c:=fun{y} hl=>by
  have hy:(y,NameKind.free)∈scope.names:=PySem.mem_of_lookup hl
  obtain⟨c',e'⟩:=mem_lookup (KP (names:=scope.names) (n:=(s.heap.push {cls:=.type "dict",data:=.dict #[]}).objs.size) (JW (cells:=X.env.cells) (acc:=[]) hy))
  rw[<-hcl]at e'
  refine⟨c',e',?_⟩
  rw[hcl]at e'
  rcases Ha (PySem.mem_of_lookup e')with hm|⟨h1,_,_⟩
  ·exact(cm hm).1
  ·have:=ok.uniq _ h1
   rw[hl]at this;cases this
 have okB:(X.blk s H scope cenv fp).Ok:=by
  refine⟨I.ok.mod,by show cenv.scope.kind=_;rw[hsc];exact ok.kind,by show cenv.globals=_;rw[<-hcenv];exact I.ok.glob,by show cenv.builtins=_;rw[<-hcenv];exact I.ok.blt,by show s.heap.objs.size<=cenv.locals;rw[hL];exact Nat.le_refl _,
   fun y z c e1 e2=>?_,fun y hy=>?_,fun y c z e=>?_,I.ok.hd,I.ok.frames,.inl rfl,fun b hb=>⟨?_,fun y c e z=>?_⟩,I.bs,Nat.le_trans I.ok.bsz I.sz,fun b o e hb=>?_,fun b hb z=>?_,I.stack,I.TV⟩
  ·have e1:cenv.cells.lookup y=some c:=e1
   have e2:cenv.cells.lookup z=some c:=e2
   rw[hcl]at e1 e2
   refine Mr (fun p hp=>?_) (fun y z c a b=>I.ok.inj y z c (cm a).1 (cm b).1) (PySem.mem_of_lookup e1) (PySem.mem_of_lookup e2)
   rw[Heap.size_push]
   exact Nat.lt_succ_of_lt (cm (y:=p.1) (c:=p.2) hp).2
  ·show ∃c,cenv.cells.lookup y=some c
   have key:∀k,cenv.kindOf y=some k->(k=.cell\/k=.free)->∃c,cenv.cells.lookup y=some c:=fun k hk hk'=>by
    unfold Env.kindOf at hk
    rw[hsc]at hk
    obtain⟨k',e,r⟩:=JX hk
    have:k'=.cell\/k'=.free:=by
     rcases r with rfl|⟨rfl,_⟩
     ·exact hk'
     ·exact .inr rfl
    rcases this with rfl|rfl
    ·obtain⟨c,hm⟩:=Mq (n:=(s.heap.push {cls:=.type "dict",data:=.dict #[]}).objs.size) (acc:=A1 X.env.cells scope.names []) (PySem.mem_of_lookup e)
     obtain⟨c',e'⟩:=mem_lookup hm
     exact⟨c',by rw[hcl];exact e'⟩
    ·obtain⟨c,h1,_⟩:=look e
     exact⟨c,h1⟩
   rcases hy with hy|hy
   ·exact key _ hy (.inl rfl)
   ·exact key _ hy (.inr rfl)
  ·have z:(scope.names.lookup y == some NameKind.cell)=true:=z
   have z:scope.names.lookup y=some .cell:=by simpa using z
   have e:cenv.cells.lookup y=some c:=e
   rw[hcl]at e
   rcases Ha (PySem.mem_of_lookup e)with hm|⟨_,h2,_⟩
   ·rcases GR hm with hm|⟨h1,_⟩
    ·cases hm
    ·have q:=ok.uniq _ h1
     rw[z]at q;cases q
   ·rw[Heap.size_push]at h2
    exact Nat.le_of_succ_le h2
  ·show b≠cenv.locals
   rw[hL];exact Nat.ne_of_lt (hfp b hb).2
  ·have e:cenv.cells.lookup y=some c:=e
   rcases mem e with⟨h1,_⟩|⟨h1,_⟩
   ·exact(hfp b hb).1.2.2.2.2.1 y c h1 z
   ·have h2:s.heap.objs.size+1<=b:=by rw[<-z];exact h1
    exact absurd (Nat.lt_of_lt_of_le (hfp b hb).2 (Nat.le_of_succ_le h2)) (Nat.lt_irrefl _)
  ·rcases(hfp b hb).1.2.2.2.1 with z|z
   ·exact I.ok.S6 b o e z
   ·exact absurd (Nat.lt_of_lt_of_le (Heap.lt_size e) (Nat.le_trans I.ok.bsz z)) (Nat.lt_irrefl _)
  ·rcases List.mem_cons.mp (I.Ot b z)with z|z
   ·exact(hfp b hb).1.2.1 z
   ·exact(hfp b hb).1.2.2.1 z
 refine⟨okB,rfl,I.bare,Un.kept kp,⟨fun _=>none,?_,fun i y av e1 e2 e3=>?_⟩,fun y c e=>?_,?_,fun y c e=>?_,fun p hp=>?_,I.hok.kept kp,by rw[GS];exact I.len⟩
 ·show Heap.Ns _ cenv.locals _
  rw[hL]
  exact Heap.Ns.keeps (Heap.Ns.new ..) fun b o e=>pushCells_keeps _ _ _ _ e
 ·obtain⟨e2,hne⟩:=KQ e2
  have hfr:scope.names.lookup y=some .free/\(cenv.kindOf y=some .cell\/cenv.kindOf y=some .free):=by
   have key:∀k,cenv.scope.names.lookup y=some k->k=.local\/k=.cell\/k=.free->scope.names.lookup y=some .free/\(cenv.kindOf y=some .cell\/cenv.kindOf y=some .free):=fun k hk hk'=>by
    have hk0:=hk
    rw[hsc]at hk
    obtain⟨k',e,r⟩:=JX hk
    have no:¬(k'=.local\/k'=.cell):=fun hh=>by
     rcases ok.own _ (PySem.mem_of_lookup e) hh with e'|e'
     ·obtain⟨p,hp,hpy⟩:=List.mem_map.mp e'
      have e3:=ok.ix p hp
      have:p.1=y:=hpy
      rw[this]at e3
      exact hne (List.mem_map.mpr ⟨p,hp,O1 hN e3 e1⟩)
     ·exact e' (List.mem_of_getElem? e1)
    rcases r with rfl|⟨rfl,rfl⟩
    ·rcases hk' with rfl|rfl|rfl
     ·exact absurd (.inl rfl) no
     ·exact absurd (.inr rfl) no
     ·exact⟨e,.inr hk0⟩
    ·exact⟨e,.inl hk0⟩
   have e3:Vis cenv.scope y:=e3
   rcases e3 with e3|e3|e3
   ·exact key _ e3 (.inl rfl)
   ·exact key _ e3 (.inr (.inl rfl))
   ·exact key _ e3 (.inr (.inr rfl))
  obtain⟨m,hn,hl⟩:=I.loc
  have hvis:Vis X.env.scope y:=(ok.free _ (PySem.mem_of_lookup hfr.1) rfl).elim (fun k=>.inr (.inl k)) (fun k=>.inr (.inr k))
  obtain⟨w,r,q⟩:=hl i y av e1 e2 hvis
  refine⟨w,r,.inr ⟨hfr.2,?_⟩⟩
  obtain⟨c,h1,h2⟩:=look hfr.1
  rcases q with⟨k,_⟩|⟨_,c',e',z⟩
  ·have k:X.env.scope.names.lookup y=some .local:=k
   rcases ok.free _ (PySem.mem_of_lookup hfr.1) rfl with k'|k' <;> rw[show X.env.scope.names.lookup y=_ from k']at k <;> cases k
  ·rw[h2]at e';cases e'
   exact⟨c,h1,z.keeps kp⟩
 ·have e:cenv.cells.lookup y=some c:=e
  rcases mem e with⟨h1,_⟩|⟨_,z⟩
  ·obtain⟨w,z⟩:=I.cell y c h1
   exact⟨w,z.keeps kp⟩
  ·exact⟨_,z⟩
 ·show H cenv.locals=none
  rw[hL];exact I.hok.fresh (Nat.le_refl _)
 ·have e:cenv.cells.lookup y=some c:=e
  rcases mem e with⟨h1,_⟩|⟨h1,_⟩
  ·exact I.Di y c h1
  ·exact I.hok.fresh (Nat.le_of_succ_le h1)
 ·exact absurd (show p∈([]:List (Addr×Obj))++[]from hp) (by simp)
theorem aa (I:Inv X pins σ H s)(hD:H D=some (.lst xs))(hz:xs.length<sizeLine)(r:RelV y v)
  (h:∀s',Inv X pins σ (upd H D (.lst (xs++[y]))) s'->Q .none s'):wpAny (model X.prog X.w) X.A (call (.builtin "list.append") [.ref D,v]) Q E s:=by
 obtain⟨hz',its,n,ri,e⟩:=I.hok D _ hD
 have hl:=ri.length
 refine append_at (hsz:=by rw[List.size_toArray];omega) e fun h' sb ho'=>?_
 refine h {s with heap:=h'} (I.write (t':=s.toks) (by rw[hD];trivial) (.inl rfl) (fun b u hb q=>(sb.2 b hb).trans q) ⟨_,ho'⟩ ⟨by rw[List.length_append];exact hz,its++[v],n+1,ri.append (.cons r .nil),?_⟩)
 rw[ho']
 simp
def PTs (X:Cx)(ifs:List Expr)(t:TT):Prop:=
 ∀(pins:List (Addr×Obj)) (s:Shared) (σ:St) (H:Hp) (Q:Bool->Hp->Prop),Inv X pins σ H s->t σ H Q->
  wpAny (model X.prog X.w) X.A (forIn ifs true fun c r=>if r=true then do let ok <-isTrue c X.env (eval c X.env);pure (ForInStep.yield ok)else pure (ForInStep.yield r)) (TP X pins σ Q) X.xe s
def kX:TT:=fun _ H Q=>Q true H
theorem GJ:PTs X [] kX:=fun _ _ _ H _ I h=>wpAny_tests_nil ⟨H,I,h⟩
end
theorem O7 (h:wpAny M A t Q (fun _ _=>False) s)(hQ:∀a s,Q a s->Q' a s):wpAny M A t Q' E s:=wpAny_mono h hQ fun _ _ z=>False.elim z
theorem Lx (I:Nat->Shared->Prop)
  (turn:∀n s,I n s->wpAny (model prog w) A (pyNext it) (fun r s₁=>match r with
   |none=>R (.ok .next) s₁
   |some v=>wpAny (model prog w) A (letOwnedTupleGo target it v) (fun _ s₁'=>wpAny (model prog w) A (assign target env v) (fun _ s₂=>
     wpAny (model prog w) A (forIn ifs true fun c r=>if r=true then do let ok <-isTrue c env (eval c env);pure (ForInStep.yield ok)else pure (ForInStep.yield r)) (fun ok s₃=>
      if ok=true then wpAny (model prog w) A (eval elt env) (fun x s₄=>
       wpAny (model prog w) A (call (.builtin "list.append") [acc,x]) (fun _ s₅=>∃m,m<n/\I m s₅) (notedBy (model prog w) A env fun e s'=>R (.error e) s') s₄) (notedBy (model prog w) A env fun e s'=>R (.error e) s') s₃
      else ∃m,m<n/\I m s₃) (notedBy (model prog w) A env fun e s'=>R (.error e) s') s₂) (notedBy (model prog w) A env fun e s'=>R (.error e) s') s₁') (notedBy (model prog w) A env fun e s'=>R (.error e) s') s₁) (notedBy (model prog w) A env fun e s'=>R (.error e) s') s)
  (n:Nat)(h:I n s):
  codeAny (model prog w) A (.compLoop (.ListComp elt [⟨target,iter,ifs,0⟩] scope pos) 0 it acc env) R s:=by
 refine codeAny_loop rfl I (fun n s hI=>?_) n h
 show wpAny _ A ((compTurn (.ListComp elt [⟨target,iter,ifs,0⟩] scope pos) 0 it acc env).onRaise (fun x=>do noteFrame x env;theTreesLotGoes x)) _ _ s
 refine wpAny_noted ?_
 rw[compTurn_list]
 refine wpAny_bind (wpAny_standAt (wpAny_bind (wpAny_mono (turn n s hI) (fun r s₁ h₁=>?_) fun _ _ h'=>h')))
 cases r with
 |none=>exact wpAny_pure h₁
 |some v=>
  refine wpAny_bind (wpAny_mono h₁ (fun _ s₁' h₁'=>?_) fun _ _ h'=>h')
  refine wpAny_bind (wpAny_mono h₁' (fun _ s₂ h₂=>wpAny_bind (wpAny_mono h₂ (fun ok s₃ h₃=>?_) fun _ _ h'=>h')) fun _ _ h'=>h')
  cases ok with
  |false=>exact wpAny_pure ⟨rfl,h₃⟩
  |true=>
   exact wpAny_bind (wpAny_bind (wpAny_mono h₃ (fun x s₄ h₄=>wpAny_bind (wpAny_mono h₄ (fun _ s₅ h₅=>wpAny_pure (wpAny_pure ⟨rfl,h₅⟩)) fun _ _ h'=>h')) fun _ _ h'=>h'))
section
variable {X:Cx}
def tLc (wi:TI)(g:TG)(tt:TT)(te:TE)(vs:List Nat):TE:=fun σ H Q=>wi σ H fun J H1=>∀D,H1 D=none->∃W:Nat->Nat->Hp->Prop,(∃m,W 0 m (upd H1 D (.lst [])))/\∀i m H,W i m H->
 (J.stop i H/\Q (.ref D) H)\/(J.go i H/\∃Nx:Hp->Prop,(∀H',Nx H'->∃m',m'<m/\W (i+1) m' H')/\∀x H',J.yld i H x H'->g x (wipe σ vs) H' fun σ2 H2=>wipe σ2 vs=wipe σ vs/\tt σ2 H2 fun b H3=>
  if b=true then te σ2 H3 fun y H4=>∃acc,H4 D=some (.lst acc)/\acc.length<sizeLine/\Nx (upd H4 D (.lst (acc++[y])))else Nx H3)
theorem YJ {pins:List (Addr×Obj)}{s:Shared}{σ:St}{H:Hp}{Q:VK}{elt tg iter:Expr}{ifs:List Expr}{scope:Scope}{own:List (Str×Nat)}{pos pos':Pos}{wi:TI}{g:TG}{tt:TT}{te:TE}{use:Option (Value->Sem Unit)}{Qf:Value->Shared->Prop}
  (hc:X.calm=true)(hN:X.N.Nodup)(I:Inv X pins σ H s)(hi:PI X tg iter wi)(ok:GI X.N X.env.scope scope own)
  (hg:∀(s:Shared) (H:Hp) (C:Addr) (cl:List (Str×Addr)) (fp:List Addr),PG (X.blk s H scope (compEnvC scope cl C X.env) fp) tg g)(ht:∀(s:Shared) (H:Hp) (C:Addr) (cl:List (Str×Addr)) (fp:List Addr),PTs (X.blk s H scope (compEnvC scope cl C X.env) fp) ifs tt)
  (he:∀(s:Shared) (H:Hp) (C:Addr) (cl:List (Str×Addr)) (fp:List Addr),PE (X.blk s H scope (compEnvC scope cl C X.env) fp) elt te)(hs:∀x,foldedSetIterable iter X.env x=pure x)
  (h:tLc wi g tt te (own.map (·.2)) σ H Q)
  (hRR:∀D C s' m H',Inv X pins σ H' s'->Q (.ref D) H'->s'.heap.Ns C m->Ki X pins H' C->compPost (model X.prog X.w) X.A X.xe use Qf (.ref D) C (.ok .next) s'):
  wpAny (model X.prog X.w) X.A (comprehension (.ListComp elt [⟨tg,iter,ifs,0⟩] scope pos) scope X.env pos' (newList []) false (eval iter X.env) use) Qf X.xe s:=by
 have hfree:∀y∈scope.names,y.2=.free->∃c,X.env.cells.lookup y.1=some c:=fun y hy e=>by
  rcases ok.free y hy e with k|k
  ·exact I.ok.has _ (.inl k)
  ·exact I.ok.has _ (.inr k)
 refine wpAny_comprehension_free (use:=use) rfl hs (O6 hfree) ok.kind (fun y hy e=>by rw[ok.uniq y hy,e])
  (thn (hi pins s σ H _ I h) fun xv s1 hx=>thn hx fun itv s2 h2=>?_)
 obtain⟨it,fp,tn,J,H2,e,I2,T,st2,f2,q⟩:=h2
 subst e
 refine wpAny_newObj_type (NV ?_) (by show 0<=sizeLine;decide)
 generalize hD:s2.heap.objs.size=D
 have hDn:H2 D=none:=I2.hok.fresh (Nat.le_of_eq hD)
 obtain⟨W,⟨m0,w0⟩,turn⟩:=q D hDn
 generalize hs3:({s2 with heap:=s2.heap.push {cls:=.type "list",data:=.seq ([]:List Value).toArray}}:Shared)=s3
 have I3:Inv X pins σ (upd H2 D (.lst [])) s3:=by
  rw[<-hs3]
  refine I2.laid (t':=s2.toks) (fun b o e=>Heap.get?_push_of_some _ e) (Nat.le_of_eq hD) ⟨Nat.zero_le _,[],0,.nil,?_⟩
  rw[<-hD]
  exact Heap.get?_push_size _ rfl
 have h3:s3.heap=s2.heap.push {cls:=.type "list",data:=.seq ([]:List Value).toArray}:=by rw[<-hs3]
 have sz:∀b∈fp,b<s2.heap.objs.size:=fun b hb=>by
  obtain⟨o,e,_⟩:=T.obj _ _ st2 b hb
  exact Heap.lt_size e
 have f3:∀b∈fp,Ki X pins (upd H2 D (.lst [])) b/\b<s3.heap.objs.size:=fun b hb=>by
  have hlt:=sz b hb
  refine⟨⟨?_,(f2 b hb).2⟩,by rw[h3,Heap.size_push];exact Nat.lt_succ_of_lt hlt⟩
  rw[AI (by rw[<-hD];exact Nat.ne_of_lt hlt)]
  exact(f2 b hb).1
 have st3:tn 0 s3.heap:=T.keep _ _ _ st2 fun b _ o e=>by rw[h3];exact Heap.get?_push_of_some _ e
 have I4:=NW I3 ok hN f3
 have pg:=hg s3 (upd H2 D (.lst [])) s3.heap.objs.size (cellsFrom (s3.heap.objs.size+1) scope.names (A1 X.env.cells scope.names [])) fp
 have pt:=ht s3 (upd H2 D (.lst [])) s3.heap.objs.size (cellsFrom (s3.heap.objs.size+1) scope.names (A1 X.env.cells scope.names [])) fp
 have pe:=he s3 (upd H2 D (.lst [])) s3.heap.objs.size (cellsFrom (s3.heap.objs.size+1) scope.names (A1 X.env.cells scope.names [])) fp
 show codeAny _ _ (.compStart (.ListComp elt [⟨tg,iter,ifs,0⟩] scope pos) 0 (.ref it) (.ref D) (compEnvC scope (cellsFrom (s3.heap.objs.size+1) scope.names (A1 X.env.cells scope.names [])) s3.heap.objs.size X.env)) (compPost (model X.prog X.w) X.A X.xe use Qf (.ref D) s3.heap.objs.size) {s3 with heap:=pushCells (s3.heap.push {cls:=.type "dict",data:=.dict #[]}) scope.names}
 have nfp:∀b∈fp,(upd H2 D (.lst [])) b=none:=fun b hb=>(f3 b hb).1.1
 generalize hce:compEnvC scope (cellsFrom (s3.heap.objs.size+1) scope.names (A1 X.env.cells scope.names [])) s3.heap.objs.size X.env=ce at I4 pg pt pe ⊢
 have cL:ce.locals=s3.heap.objs.size:=by subst hce;rfl
 generalize hH3:upd H2 D (.lst [])=H3 at I3 I4 pg pt pe w0 nfp f3
 generalize hs4:({s3 with heap:=pushCells (s3.heap.push {cls:=.type "dict",data:=.dict #[]}) scope.names}:Shared)=s4 at I4 ⊢
 have st4:tn 0 s4.heap:=T.keep _ _ _ st3 fun b _ o e=>by rw[<-hs4];exact pushCells_keeps _ _ _ _ (Heap.get?_push_of_some _ e)
 have stat:∀{σ':St}{H':Hp}{s':Shared},Inv (X.blk s3 H3 scope ce fp) [] σ' H' s'->(∀b∈fp,H' b=none)->∀b∈fp,Ki (X.blk s3 H3 scope ce fp) [] H' b:=fun{σ' H' s'} I' hn b hb=>
  ⟨hn b hb,(I'.ok.exf b hb).1,I'.ok.Qm b hb,.inl hb,fun x c e=>(I'.ok.exf b hb).2 x c e,fun p hp=>absurd (show p∈([]:List (Addr×Obj))++[]from hp) (by simp)⟩
 have loop:codeAny (model X.prog X.w) X.A (.compLoop (.ListComp elt [⟨tg,iter,ifs,0⟩] scope pos) 0 (.ref it) (.ref D) ce) (compPost (model X.prog X.w) X.A X.xe use Qf (.ref D) s3.heap.objs.size) s4:=by
  refine Lx (fun n s'=>∃i H',Inv (X.blk s3 H3 scope ce fp) [] (wipe σ (own.map (·.2))) H' s'/\tn i s'.heap/\(∀b∈fp,H' b=none)/\W i n H') ?_ m0 ⟨0,H3,I4,st4,nfp,w0⟩
  rintro n s5 ⟨i,H5,I5,st5,n5,w5⟩
  rcases turn i n H5 w5 with⟨stop,qq⟩|⟨go,Nx,hNx,step⟩
  ·have td:=T.done (X.blk s3 H3 scope ce fp) rfl rfl rfl hc i [] s5 _ H5 (fun _ _=>False) I5 (stat I5 n5) st5 stop
   refine O7 td fun r s6 ⟨hr,I6⟩=>?_
   subst hr
   have I7:Inv X pins σ H5 s6:=I3.VA (ch:=fp) I6.os I6.base I6.hok I6.bare fun b hb=>⟨(f3 b hb).1.2.2.2.1,(f3 b hb).1.2.1,(f3 b hb).1.2.2.2.2.1,(f3 b hb).1.2.2.2.2.2⟩
   have nC:H5 s3.heap.objs.size=none:=by
    have z:H5 ce.locals=none:=I6.free
    rw[cL]at z
    exact z
   obtain⟨m,hn,_⟩:=I6.loc
   have hn:s6.heap.Ns ce.locals m:=hn
   rw[cL]at hn
   exact hRR D s3.heap.objs.size s6 m H5 I7 qq hn (I3.TZ (Nat.le_refl _) nC)
  ·have ti:=T.item (X.blk s3 H3 scope ce fp) rfl rfl rfl hc i [] s5 _ H5 (fun _ _=>False) I5 (stat I5 n5) st5 go
   refine O7 ti fun r s6 ⟨u,hr,h6⟩=>?_
   subst hr
   refine O7 h6 fun _ s7 ⟨x,H7,I7,r7,y7,st7,n7⟩=>?_
   have I7':=I7.pinned (stat I7 n7) (T.obj _ _ st7)
   refine O7 (pg _ s7 _ H7 x u _ I7' r7 (step x H7 y7)) fun _ s8 ⟨σ8,H8,I8,hw8,q8⟩=>?_
   refine O7 (pt _ s8 σ8 H8 _ I8 q8) fun b s9 ⟨H9,I9,q9⟩=>?_
   have fin:∀{s':Shared}{H':Hp},Inv (X.blk s3 H3 scope ce fp) ([]++Mo fp s7.heap) σ8 H' s'->Nx H'->∃m,m<n/\∃i H',Inv (X.blk s3 H3 scope ce fp) [] (wipe σ (own.map (·.2))) H' s'/\tn i s'.heap/\(∀b∈fp,H' b=none)/\W i m H':=fun{s' H'} I' nx=>by
    obtain⟨m',hm,w'⟩:=hNx H' nx
    have pin':∀b∈fp,∀o,s7.heap.get? b=some o->s'.heap.get? b=some o/\H' b=none:=fun b hb o e=>
     let z:=I'.pin (b,o) (List.mem_append_right _ (List.mem_append_right _ (Hx hb e)))
     ⟨z.1,z.2.1⟩
    have hl:(wipe σ (own.map (·.2))).length=σ8.length:=by rw[<-hw8,GS]
    refine⟨m',hm,i+1,H',(I'.JS (pins:=[])).weak hl (fun j v e=>?_),T.keep _ _ _ st7 fun b hb o e=>(pin' b hb o e).1,fun b hb=>?_,w'⟩
    ·rw[<-hw8]at e
     exact(KQ e).1
    ·obtain⟨o,e,_⟩:=T.obj _ _ st7 b hb
     exact(pin' b hb o e).2
   cases b with
   |false=>
    simp only[Bool.false_eq_true,if_false]at q9 ⊢
    exact fin I9 q9
   |true=>
    simp only[if_true]at q9 ⊢
    refine O7 (pe _ s9 σ8 H9 _ I9 q9) fun z s10 ⟨yv,H10,I10,r10,acc,hD10,hz10,nx⟩=>?_
    exact aa (X:=X.blk s3 H3 scope ce fp) I10 hD10 hz10 r10 fun s11 I11=>fin I11 nx
 exact codeAny_compStart_list loop (T.self X.A 0 _ _ _ st4 loop)
theorem SF (hc:X.calm=true)(hN:X.N.Nodup)(hi:PI X tg iter wi)(ok:GI X.N X.env.scope scope own)
  (hg:∀(s:Shared) (H:Hp) (C:Addr) (cl:List (Str×Addr)) (fp:List Addr),PG (X.blk s H scope (compEnvC scope cl C X.env) fp) tg g)(ht:∀(s:Shared) (H:Hp) (C:Addr) (cl:List (Str×Addr)) (fp:List Addr),PTs (X.blk s H scope (compEnvC scope cl C X.env) fp) ifs tt)
  (he:∀(s:Shared) (H:Hp) (C:Addr) (cl:List (Str×Addr)) (fp:List Addr),PE (X.blk s H scope (compEnvC scope cl C X.env) fp) elt te)(hs:∀x,foldedSetIterable iter X.env x=pure x:=by intro _;rfl):
  PE X (.ListComp elt [⟨tg,iter,ifs,0⟩] scope pos) (tLc wi g tt te (own.map (·.2))):=by
 intro pins s σ H Q I h
 rw[eval_ListComp]
 refine YJ hc hN I hi ok hg ht he hs h fun D C s' m H' I' q hn f=>⟨m,hn,fun h'' sb=>?_⟩
 obtain⟨f0,f1,f2,f3,f4,f5⟩:=f
 exact⟨.ref D,H',I'.turned (t':=s'.toks) (fun b o hb e=>(sb.2 b hb).trans e) f0 f1 f3 f4 f5,rfl,q⟩
theorem ae (hc:X.calm=true)(hN:X.N.Nodup)(hy:X.N[i]? =some y)(hyl:X.env.scope.names.lookup y=some .local)
  (hsw:swapsWith (.ListComp elt [⟨tg,iter,ifs,0⟩] scope pos) (some (.Name y py)) spos.line X.env=pure true)(hi:PI X tg iter wi)(ok:GI X.N X.env.scope scope own)
  (hg:∀(s:Shared) (H:Hp) (C:Addr) (cl:List (Str×Addr)) (fp:List Addr),PG (X.blk s H scope (compEnvC scope cl C X.env) fp) tg g)(ht:∀(s:Shared) (H:Hp) (C:Addr) (cl:List (Str×Addr)) (fp:List Addr),PTs (X.blk s H scope (compEnvC scope cl C X.env) fp) ifs tt)
  (he:∀(s:Shared) (H:Hp) (C:Addr) (cl:List (Str×Addr)) (fp:List Addr),PE (X.blk s H scope (compEnvC scope cl C X.env) fp) elt te)(hs:∀x,foldedSetIterable iter X.env x=pure x:=by intro _;rfl):
  PS X (.Assign [.Name y py] (.ListComp elt [⟨tg,iter,ifs,0⟩] scope pos) spos) (N4 (tLc wi g tt te (own.map (·.2))) (Eu i)):=by
 intro pins s σ H D I h
 rw[exec_Assign_Name_used _ _ _ _ hsw]
 refine wpAny_bind (wpAny_standAt (wpAny_bind ?_))
 show wpAny _ X.A (do let _ <-comprehension (.ListComp elt [⟨tg,iter,ifs,0⟩] scope pos) scope X.env (firstIterPos [⟨tg,iter,ifs,0⟩] pos) (newList []) false (eval iter X.env) (some (assign (.Name y py) X.env))) _ _ s
 have h:tLc wi g tt te (own.map (·.2)) σ H (fun x H1=>Eu i x σ H1 D.nx):=h
 refine wpAny_bind (thn (YJ (Qf:=fun _ s'=>SP X pins D .next s') hc hN I hi ok hg ht he hs h fun L C s' m H' I' q hn f=>?_) fun _ s' hq=>wpAny_pure (wpAny_pure hq))
 show wpAny _ _ (assign (.Name y py) X.env (.ref L)) _ _ _
 refine wpAny_assign_Name (Mn (v:=V.ref L) I' hN hy (.inl hyl) rfl (fun s2 I2 ⟨a,sb,ha⟩=>?_) (.inr hyl))
 obtain⟨f0,f1,f2,f3,f4,f5⟩:=f
 have haC:C≠a:=by
  rcases ha with z|z
  ·rw[z];exact f1
  ·exact fun e=>f4 y a z e.symm
 refine⟨m,hn.sameBut sb haC,fun h3 sb3=>?_⟩
 exact⟨_,H',I2.turned (t':=s2.toks) (fun b o hb e=>(sb3.2 b hb).trans e) f0 f1 f3 f4 f5,q⟩
theorem X8 (hk:env.scope.kind=.function)(hy:env.scope.names.lookup y=some .local)(hl:(py.line == pos.line)=true)
  (ha:(scope.names.any fun(n,k)=>n == y&&(k == .local||k == .cell))=false):swapsWith (.ListComp elt gs scope pos) (some (.Name y py)) l env=pure true:=by
 have ky:env.kindOf y=some .local:=hy
 have hb:env.blockKind=.function:=by unfold Env.blockKind;rw[hk];rfl
 unfold swapsWith
 simp only[hb,ky,ha,Expr.pos,hl]
 rfl
end
theorem O8 {lo:Int}{n:Nat}{g:TG}{tt:TT}{te:TE}{vs:List Nat}{σ:St}{H1:Hp}{D:Addr}{Qd:Hp->Prop}(Pv:Nat->Hp->Prop)(h0:Pv 0 (upd H1 D (.lst [])))
  (hs:∀i H,i<n->Pv i H->g (.int (lo+i)) (wipe σ vs) H fun σ2 H2=>wipe σ2 vs=wipe σ vs/\tt σ2 H2 fun b H3=>
   if b=true then te σ2 H3 fun y H4=>∃acc,H4 D=some (.lst acc)/\acc.length<sizeLine/\Pv (i+1) (upd H4 D (.lst (acc++[y])))else Pv (i+1) H3)(hd:∀H,Pv n H->Qd H):
  ∃W:Nat->Nat->Hp->Prop,(∃m,W 0 m (upd H1 D (.lst [])))/\∀i m H,W i m H->
   ((Itr lo n).stop i H/\Qd H)\/((Itr lo n).go i H/\∃Nx:Hp->Prop,(∀H',Nx H'->∃m',m'<m/\W (i+1) m' H')/\∀x H',(Itr lo n).yld i H x H'->g x (wipe σ vs) H' fun σ2 H2=>wipe σ2 vs=wipe σ vs/\tt σ2 H2 fun b H3=>
    if b=true then te σ2 H3 fun y H4=>∃acc,H4 D=some (.lst acc)/\acc.length<sizeLine/\Nx (upd H4 D (.lst (acc++[y])))else Nx H3):=by
 refine⟨fun i m H=>m=n - i/\i<=n/\Pv i H,⟨n,by simp,Nat.zero_le _,h0⟩,?_⟩
 rintro i m H ⟨rfl,hi,p⟩
 by_cases hlt:i<n
 ·refine .inr ⟨hlt,Pv (i+1),fun H' p'=>⟨n - (i+1),by omega,rfl,hlt,p'⟩,fun x H' y=>?_⟩
  obtain⟨e,y⟩:=y
  subst e y
  exact hs i _ hlt p
 ·have e:i=n:=by omega
  subst e
  exact .inl ⟨Nat.le_refl _,hd H p⟩
theorem OW {K:PySem.W.Frag}{a:Addr}{xs:List V}{g:TG}{tt:TT}{te:TE}{vs:List Nat}{σ:St}{H1:Hp}{D:Addr}{Qd:Hp->Prop}(Pv:Nat->Hp->Prop)(h0:Pv 0 (upd H1 D (.lst [])))(hl:∀i H,i<=xs.length->Pv i H->SqL K H a xs)
  (hs:∀i x H,xs[i]? =some x->Pv i H->g x (wipe σ vs) H fun σ2 H2=>wipe σ2 vs=wipe σ vs/\tt σ2 H2 fun b H3=>
   if b=true then te σ2 H3 fun y H4=>∃acc,H4 D=some (.lst acc)/\acc.length<sizeLine/\Pv (i+1) (upd H4 D (.lst (acc++[y])))else Pv (i+1) H3)(hd:∀H,Pv xs.length H->Qd H):
  ∃W:Nat->Nat->Hp->Prop,(∃m,W 0 m (upd H1 D (.lst [])))/\∀i m H,W i m H->
   ((Itl K a).stop i H/\Qd H)\/((Itl K a).go i H/\∃Nx:Hp->Prop,(∀H',Nx H'->∃m',m'<m/\W (i+1) m' H')/\∀x H',(Itl K a).yld i H x H'->g x (wipe σ vs) H' fun σ2 H2=>wipe σ2 vs=wipe σ vs/\tt σ2 H2 fun b H3=>
    if b=true then te σ2 H3 fun y H4=>∃acc,H4 D=some (.lst acc)/\acc.length<sizeLine/\Nx (upd H4 D (.lst (acc++[y])))else Nx H3):=by
 refine⟨fun i m H=>m=xs.length - i/\i<=xs.length/\Pv i H,⟨xs.length,by simp,Nat.zero_le _,h0⟩,?_⟩
 rintro i m H ⟨rfl,hi,p⟩
 have q:=hl i H hi p
 by_cases hlt:i<xs.length
 ·refine .inr ⟨⟨xs,xs[i],q,by simp[hlt]⟩,Pv (i+1),fun H' p'=>⟨xs.length - (i+1),by omega,rfl,hlt,p'⟩,fun x H' y=>?_⟩
  obtain⟨e,y⟩:=y
  subst e
  exact hs i x _ (y xs q) p
 ·have e:i=xs.length:=by omega
  subst e
  exact .inl ⟨⟨xs,q,Nat.le_refl _⟩,hd H p⟩
section
variable {prog:Program}{w:World}{A:Around}{R:Result->Shared->Prop}{s:Shared}{elt t0 i0 t1 i1:Expr}{ifs0 ifs1:List Expr}{scope:Scope}{pos:Pos}{it acc:Value}{env:Env}
end
section
variable {X:Cx}
end
section
variable {κ:Type} [DecidableEq κ]
def C3 (kvs:List (κ×V))(k:κ):Option V:=(kvs.find? fun kv=>decide (kv.1=k)).map (·.2)
def putK (kvs:List (κ×V))(k:κ)(v:V):List (κ×V):=
 if(kvs.any fun kv=>decide (kv.1=k))=true then kvs.map (fun kv=>if kv.1=k then(kv.1,v)else kv)else kvs++[(k,v)]
theorem VU:C3 ([]:List (κ×V)) k=none:=rfl
theorem CN {p:κ×V}{r:List (κ×V)}{k:κ}(e:p.1=k):C3 (p::r) k=some p.2:=by simp[C3,List.find?_cons,e]
theorem CO {p:κ×V}{r:List (κ×V)}{k:κ}(e:¬p.1=k):C3 (p::r) k=C3 r k:=by simp[C3,List.find?_cons,e]
theorem Hc (k:κ):∀kvs:List (κ×V),(kvs.any fun kv=>decide (kv.1=k))=(C3 kvs k).isSome
 |[]=>rfl
 |p::r=>by
  rw[List.any_cons]
  by_cases e:p.1=k
  ·simp only[CN e,decide_eq_true e,Bool.true_or,Option.isSome_some]
  ·rw[CO e,decide_eq_false e,Bool.false_or];exact Hc k r
theorem VV (k j:κ)(y:V):∀kvs:List (κ×V),C3 (kvs.map fun kv=>if kv.1=k then(kv.1,y)else kv) j=(C3 kvs j).map fun x=>if j=k then y else x
 |[]=>rfl
 |p::r=>by
  have ih:=VV k j y r
  rw[List.map_cons]
  by_cases h:p.1=k
  ·rw[if_pos h]
   by_cases e:p.1=j
   ·rw[CN (p:=(p.1,y)) e,CN e,Option.map_some,if_pos (e.symm.trans h)]
   ·rw[CO (p:=(p.1,y)) e,CO e,ih]
  ·rw[if_neg h]
   by_cases e:p.1=j
   ·rw[CN (p:=p) e,CN e,Option.map_some,if_neg (fun z=>h (e.trans z))]
   ·rw[CO (p:=p) e,CO e,ih]
theorem SG (k j:κ)(y:V):∀kvs:List (κ×V),C3 kvs k=none->C3 (kvs++[(k,y)]) j=if j=k then some y else C3 kvs j
 |[],_=>by
  by_cases e:k=j
  ·rw[if_pos e.symm];exact CN (p:=(k,y)) e
  ·rw[if_neg (fun z=>e z.symm)];exact CO (p:=(k,y)) e
 |p::r,hn=>by
  rw[List.cons_append]
  have hk:¬p.1=k:=fun z=>by rw[CN z]at hn;cases hn
  rw[CO hk]at hn
  have ih:=SG k j y r hn
  by_cases e:p.1=j
  ·rw[CN e,CN e,if_neg (fun z=>hk (e.trans z))]
  ·rw[CO e,CO e,ih]
theorem VW (kvs:List (κ×V))(k j:κ)(y:V):C3 (putK kvs k y) j=if j=k then some y else C3 kvs j:=by
 unfold putK
 by_cases a:(kvs.any fun kv=>decide (kv.1=k))=true
 ·rw[if_pos a,VV]
  rw[Hc]at a
  by_cases e:j=k
  ·obtain⟨x,hx⟩:=Option.isSome_iff_exists.mp a
   rw[if_pos e,e,hx,Option.map_some,if_pos rfl]
  ·rw[if_neg e]
   cases C3 kvs j with
   |none=>rfl
   |some x=>rw[Option.map_some,if_neg e]
 ·rw[if_neg a]
  refine SG k j y kvs ?_
  rw[Hc]at a
  cases q:C3 kvs k with
  |none=>rfl
  |some x=>rw[q]at a;exact(a rfl).elim
theorem NX (kvs:List (κ×V))(k:κ)(v:V):(putK kvs k v).length<=kvs.length+1:=by
 unfold putK
 split
 ·rw[List.length_map];omega
 ·rw[List.length_append,List.length_cons,List.length_nil];omega
theorem af {kvs:List (κ×V)}{k:κ}(v:V)(h:C3 kvs k=none):putK kvs k v=kvs++[(k,v)]:=by
 unfold putK
 rw[Hc,h]
 exact if_neg (by decide)
theorem Iq.Ms (r:Iq o u):o.isSome=u.isSome:=by
 cases o with
 |none=>cases u with
  |none=>rfl
  |some _=>exact(show False from r).elim
 |some _=>cases u with
  |none=>exact(show False from r).elim
  |some _=>rfl
theorem Iq.getD (r:Iq o u)(rd:RelV d d'):RelV (o.getD d) (u.getD d'):=by
 cases o with
 |none=>cases u with
  |none=>exact rd
  |some _=>exact(show False from r).elim
 |some _=>cases u with
  |none=>exact(show False from r).elim
  |some _=>exact r
theorem KV.val {kvs:List (κ×V)}{vs:List (κ×Value)}(r:KV kvs vs)(k:κ):Iq (C3 kvs k) (valueAt vs k):=by
 unfold KV at r
 induction r with
 |nil=>exact True.intro
 |@cons p q ps qs h t ih=>
  obtain⟨h1,h2⟩:=h
  by_cases e:p.1=k
  ·have e':q.1=k:=h1.symm.trans e
   have b:valueAt (q::qs) k=some q.2:=by simp[valueAt,List.find?_cons,e']
   rw[CN e,b];exact h2
  ·have e':¬q.1=k:=fun z=>e (h1.trans z)
   have b:valueAt (q::qs) k=valueAt qs k:=by simp[valueAt,List.find?_cons,e']
   rw[CO e,b];exact ih
theorem KV.any (r:KV kvs vs)(k:κ):(kvs.any fun kv=>decide (kv.1=k))=vs.any fun kv=>decide (kv.1=k):=by
 unfold KV at r
 induction r with
 |nil=>rfl
 |cons h t ih=>rw[List.any_cons,List.any_cons,ih,h.1]
theorem KV.i5 (r:KV kvs vs)(k:κ)(ry:RelV y u):
  KV (kvs.map fun kv=>if kv.1=k then(kv.1,y)else kv) (vs.map fun kv=>if kv.1=k then(kv.1,u)else kv):=by
 unfold KV at r ⊢
 induction r with
 |nil=>exact .nil
 |@cons p q ps qs h t ih=>
  rw[List.map_cons,List.map_cons]
  refine .cons ?_ ih
  obtain⟨h1,h2⟩:=h
  by_cases e:p.1=k
  ·rw[if_pos e,if_pos (h1.symm.trans e)];exact⟨h1,ry⟩
  ·rw[if_neg e,if_neg (fun z=>e (h1.trans z))];exact⟨h1,h2⟩
theorem KV.put (r:KV kvs vs)(k:κ)(ry:RelV y u):KV (putK kvs k y) (stored vs k u):=by
 unfold putK stored
 rw[r.any k]
 by_cases e:(vs.any fun kv=>decide (kv.1=k))=true
 ·rw[if_pos e,if_pos e];exact r.i5 k ry
 ·rw[if_neg e,if_neg e];exact Paired.snoc r ⟨rfl,ry⟩
theorem KV.length (r:KV kvs vs):kvs.length=vs.length:=Paired.length r
end
theorem SH (r:RelV (kV k) u):(BQ P w).is k u=true:=by
 cases k with
 |inl i=>obtain⟨t,e⟩:=(show ∃t,u=Value.int i t from r);subst e;exact VL P w i t
 |inr x=>obtain⟨t,e⟩:=(show ∃t,u=Value.str x t from r);subst e;exact VM P w x t
theorem SI:∀{ks:List Key}{us:List Value},Vals (ks.map kV) us->ItemsAre (BQ P w) ks us
 |[],_,r=>by rw[List.map_nil]at r;cases r;exact .nil
 |k::ks,_,r=>by
  rw[List.map_cons]at r
  cases r with
  |cons h t=>exact .cons (SH h) (SI t)
abbrev KT (H:Hp):List (List Key×V)->List (List Key×Addr×Value)->Prop:=Paired fun p q=>p.1=q.1/\H q.2.1=some (.tup (p.1.map kV))/\RelV p.2 q.2.2
theorem KT.val {H:Hp}{kvs:List (List Key×V)}{xs:List (List Key×Addr×Value)}(r:KT H kvs xs)(k:List Key):Iq (C3 kvs k) ((atKey xs k).map (·.2)):=by
 induction r with
 |nil=>exact True.intro
 |@cons p q ps qs h t ih=>
  obtain⟨h1,_,h2⟩:=h
  by_cases e:p.1=k
  ·have e':q.1=k:=h1.symm.trans e
   have b:atKey (q::qs) k=some q.2:=by simp[atKey,List.find?_cons,e']
   rw[CN e,b];exact h2
  ·have e':¬q.1=k:=fun z=>e (h1.trans z)
   have b:atKey (q::qs) k=atKey qs k:=by simp[atKey,List.find?_cons,e']
   rw[CO e,b];exact ih
theorem KT.i5 (r:KT H kvs xs)(k:List Key)(ry:RelV y u):
  KT H (kvs.map fun kv=>if kv.1=k then(kv.1,y)else kv) (xs.map (putAt k u)):=by
 induction r with
 |nil=>exact .nil
 |@cons p q ps qs h t ih=>
  rw[List.map_cons,List.map_cons]
  refine .cons ?_ ih
  obtain⟨h1,h2,h3⟩:=h
  unfold putAt
  by_cases e:p.1=k
  ·rw[if_pos e,if_pos (h1.symm.trans e)];exact⟨h1,h2,ry⟩
  ·rw[if_neg e,if_neg (fun z=>e (h1.trans z))];exact⟨h1,h2,h3⟩
theorem KT.put (r:KT H kvs xs)(k:List Key)(hb:H b=some (.tup (k.map kV)))(ry:RelV y u):
  KT H (putK kvs k y) (storedH xs k b u):=by
 have e:(kvs.any fun kv=>decide (kv.1=k))=(atKey xs k).isSome:=by
  rw[Hc,(r.val k).Ms,Option.isSome_map]
 unfold putK storedH
 rw[e]
 by_cases q:(atKey xs k).isSome=true
 ·rw[if_pos q,if_pos q];exact r.i5 k ry
 ·rw[if_neg q,if_neg q];exact Paired.snoc r ⟨rfl,hb,ry⟩
theorem KT.keeps (r:KT H kvs xs)(ht:∀b ys,H b=some (.tup ys)->H' b=some (.tup ys)):KT H' kvs xs:=
 Paired.dA r fun _ _ z=>⟨z.1,ht _ _ z.2.1,z.2.2⟩
section
variable {P:Program}{w:World}{H:Hp}{h:Heap}{a:Addr}
theorem fh (ok:HOk P w H h)(e:Rd H a u):Bk P w H h a u:=e.ok ok
theorem SJ (ok:HOk P w H h)(e:Rd H a (.dK kvs)):kvs.length<=sizeLine/\(a == sysModules)=false/\∃vs,KV kvs vs/\h.DictOf (BQ P w) a vs:=
 show Bk P w H h a (.dK kvs)from fh ok e
theorem kY (ok:HOk P w H h)(e:H a=some (.dK kvs)):kvs.length<=sizeLine/\(a == sysModules)=false/\∃vs,KV kvs vs/\h.DictOf (BQ P w) a vs:=SJ ok (.inl e)
theorem Mt (ok:HOk P w H h)(e:H a=some (.tup (ks.map kV))):(tupleKind (BQ P w)).is h ks a:=by
 obtain⟨_,its,r,o,h1,h2,n,h3⟩:=(show Bk P w H h a (.tup (ks.map kV))from ok a _ e)
 exact⟨o,its.toArray,n,h1,h2,h3,by simpa using SI r⟩
theorem SK (ok:HOk P w H h)(e:Rd H a (.dT kvs)):kvs.length<=sizeLine/\(a == sysModules)=false/\
  ∃xs,KT H kvs xs/\h.DictOfH (tupleKind (BQ P w)) a xs:=by
 obtain⟨z,y,xs,r,o,es,ep,h1,h2,h3,h4,h5⟩:=(show Bk P w H h a (.dT kvs)from fh ok e)
 refine⟨z,y,xs,r,o,es,ep,h1,h2,h3,h4,fun x hx=>?_,h5⟩
 have all:∀{l:List (List Key×V)}{m:List (List Key×Addr×Value)},KT H l m->∀x∈m,(tupleKind (BQ P w)).is h x.1 x.2.1:=by
  intro l m q
  induction q with
  |nil=>intro x hx;exact nomatch hx
  |@cons p q ps qs hq t ih=>
   intro x hx
   rcases List.mem_cons.mp hx with e|hx
   ·subst e
    exact Mt ok (by rw[<-hq.1];exact hq.2.1)
   ·exact ih x hx
 exact all r x hx
theorem fi (ok:HOk P w H h)(e:H a=some (.dT kvs)):kvs.length<=sizeLine/\(a == sysModules)=false/\
  ∃xs,KT H kvs xs/\h.DictOfH (tupleKind (BQ P w)) a xs:=SK ok (.inl e)
end
def Mu (H:Hp)(a:Addr)(y:V)(r:Option V):Prop:=
 (∃kvs k,Rd H a (.dK kvs)/\y=kV k/\r=C3 kvs k)\/∃kvs k b,Rd H a (.dT kvs)/\y=.ref b/\H b=some (.tup (k.map kV))/\r=C3 kvs k
def ZI (H:Hp)(a:Addr)(y v:V)(H':Hp):Prop:=
 (∃kvs k,H a=some (.dK kvs)/\y=kV k/\kvs.length<sizeLine/\H'=upd H a (.dK (putK kvs k v)))\/
 ∃kvs k b,H a=some (.dT kvs)/\y=.ref b/\H b=some (.tup (k.map kV))/\kvs.length<sizeLine/\H'=upd H a (.dT (putK kvs k v))
theorem Mu.t (e:H a=some (.dT kvs))(eb:H b=some (.tup (k.map kV))):Mu H a (.ref b) (C3 kvs k):=.inr ⟨kvs,k,b,.inl e,rfl,eb,rfl⟩
theorem ZI.t (e:H a=some (.dT kvs))(eb:H b=some (.tup (k.map kV)))(hl:kvs.length<sizeLine):
  ZI H a (.ref b) v (upd H a (.dT (putK kvs k v))):=.inr ⟨kvs,k,b,e,rfl,eb,hl,rfl⟩
section
variable {X:Cx}{pins:List (Addr×Obj)}{σ:St}{H:Hp}{s:Shared}{a:Addr}{y v:V}{u r:Value}{o:Option V}{A:Around}{E:Value->Shared->Prop}
theorem Inv.big (I:Inv X pins σ H s):sysModules<s.heap.objs.size:=by
 have h:mainGlobals<s.heap.objs.size:=(I.mod.glob.keeps I.bk).lt
 exact Nat.lt_trans (by decide) h
theorem ZJ (hu:A.units+1<cLine)(I:Inv X pins σ H s)(g:Mu H a y (some v))(ry:RelV y u)(h:∀w' s',Inv X pins σ H s'->RelV v w'->Q w' s'):
  wpAny (model X.prog X.w) A (getItem (.ref a) u) Q E s:=by
 rcases g with⟨kvs,k,e,ey,l⟩|⟨kvs,k,b,e,ey,eb,l⟩
 ·subst ey
  obtain⟨z,hd,vs,rel,dd⟩:=SJ I.hok e
  obtain⟨w',hw,rw'⟩:=Iq.some_of (v:=v) (o:=valueAt vs k) (by rw[l];exact rel.val k)
  exact wpAny_getItem_of (SH ry) dd.mapOf hw (h w' _ (I.tok _) rw')
 ·subst ey
  cases(show u=Value.ref b from ry)
  obtain⟨z,hd,xs,rel,dd⟩:=SK I.hok e
  obtain⟨w',hw,rw'⟩:=Iq.some_of (v:=v) (o:=(atKey xs k).map (·.2)) (by rw[l];exact rel.val k)
  obtain⟨p,hp,hp2⟩:=Option.map_eq_some_iff.mp hw
  refine wpAny_getItem_heap (tupleKind_room_in1 hu) (Mt I.hok eb) dd hp ?_
  rw[hp2]
  exact h w' _ (I.tok _) rw'
theorem dY (hu:A.units+1<cLine)(I:Inv X pins σ H s)(g:Mu H a y o)(ry:RelV y u)(h:∀s',Inv X pins σ H s'->Q (.bool (!o.isSome)) s'):
  wpAny (model X.prog X.w) A (compareOp .NotIn u (.ref a)) Q E s:=by
 rcases g with⟨kvs,k,e,ey,l⟩|⟨kvs,k,b,e,ey,eb,l⟩
 ·subst ey
  obtain⟨z,hd,vs,rel,dd⟩:=SJ I.hok e
  refine wpAny_notIn_of (SH ry) hd dd.mapOf ?_
  rw[<-(rel.val k).Ms,<-l]
  exact h _ (I.tok _)
 ·subst ey
  cases(show u=Value.ref b from ry)
  obtain⟨z,hd,xs,rel,dd⟩:=SK I.hok e
  refine wpAny_notIn_heap (tupleKind_room_in1 hu) (Mt I.hok eb) hd dd ?_
  have q:=(rel.val k).Ms
  rw[Option.isSome_map]at q
  rw[<-q,<-l]
  exact h _ (I.tok _)
theorem Tq (I:Inv X pins σ H s)(mu:Mut (H a))(hs:Heap.SameBut a s.heap h')(he:∃q,h'.get? a=some q)(new:Bk X.prog X.w (upd H a ob) h' a ob):
  Inv X pins σ (upd H a ob) {s with heap:=h',toks:=t'}:=
 I.write (x:=a) (e:=a) mu (.inl rfl) (fun b q hb z=>(hs.2 b hb).trans z) he new
theorem i6 (z:kvs.length<=sizeLine)(hd:(a == sysModules)=false)(rel:KV kvs vs)(dd:h'.DictOf (BQ P w) a vs):
  Bk P w H' h' a (.dK kvs):=⟨z,hd,vs,rel,dd⟩
theorem ZK (hu:A.units+1<cLine)(I:Inv X pins σ H s)(g:ZI H a y v H')(ry:RelV y u)(rv:RelV v r)(h:∀s',Inv X pins σ H' s'->Q () s'):
  wpAny (model X.prog X.w) A (setItem (.ref a) u r) Q E s:=by
 rcases g with⟨kvs,k,e,ey,l,eH⟩|⟨kvs,k,b,e,ey,eb,l,eH⟩
 ·subst ey eH
  obtain⟨z,hd,vs,rel,dd⟩:=kY I.hok e
  have hz:vs.length<=sizeLine:=by rw[<-rel.length];exact z
  have hl:(putK kvs k v).length<=sizeLine:=by have:=NX kvs k v;omega
  refine wpAny_setItem_pairs (hsz:=hz) (SH ry) dd fun h' dd' hs=>h _ ?_
  have he:∃q,h'.get? a=some q:=let⟨q,_,_,hq,_⟩:=dd';⟨q,hq⟩
  exact Tq I (by rw[e];exact True.intro) hs he (i6 hl hd (rel.put k rv) dd')
 ·subst ey eH
  cases(show u=Value.ref b from ry)
  obtain⟨z,hd,xs,rel,dd⟩:=fi I.hok e
  have hz:xs.length<=sizeLine:=by rw[<-Paired.length rel];exact z
  have hl:(putK kvs k v).length<=sizeLine:=by have:=NX kvs k v;omega
  refine wpAny_setItem_heap (hsz:=hz) (tupleKind_room_in1 hu) (Mt I.hok eb) dd fun h' dd' hs=>h _ ?_
  obtain⟨q,es,ep,hq,h2,h3,h4,_,h5⟩:=dd'
  refine Tq I (by rw[e];exact True.intro) hs ⟨q,hq⟩ ⟨hl,hd,_,(rel.put k eb rv).keeps fun c ys ec=>?_,q,es,ep,hq,h2,h3,h4,h5⟩
  rw[AI (Af ec e (fun z=>nomatch z))]
  exact ec
end
section
variable {X:Cx}{pins:List (Addr×Obj)}{σ:St}{H:Hp}{s:Shared}{a:Addr}{kvs:List (Key×V)}{k:Key}{u:Value}{A:Around}{E:Value->Shared->Prop}
end
def i7 (i:Expr):Prop:=∀ov iv,subscripted i false ov iv=operate [ov,iv] (getItem ov iv)
theorem YK {prog:Program}{w:World}{A:Around}{E:Value->Shared->Prop}{s:Shared}{env:Env}{value slice:Expr}{pos:Pos}{T id:String}{Q:Value->Shared->Prop}
  (hl:typeLookup (.type T) "__getitem__"=pure (some (.builtin id)))(hs:i7 slice)
  (h:wpAny (model prog w) A (eval value env) (fun o s₁=>wpAny (model prog w) A (eval slice env) (fun i s₂=>s₂.TypeIs o T/\wpAny (model prog w) A (getItem o i) Q E s₂) E s₁) E s):
  wpAny (model prog w) A (eval (.Subscript value slice pos) env) Q E s:=by
 refine Subscript_ (wpAny_mono h (fun o s₁ h₁=>wpAny_mono h₁ (fun i s₂ h₂=>?_) fun _ _ x=>x) fun _ _ x=>x)
 obtain⟨hT,h₂⟩:=h₂
 unfold subscriptTail
 refine wpAny_bind ?_
 rw[getitemInPython_of_ne hT.not_modules]
 refine wpAny_bind (wpAny_specialOf hT hl ?_)
 have fin:wpAny (model prog w) A (subscripted slice false o i) (fun r s₃=>wpAny (model prog w) A (letTemporaryGo value o r>>=fun _=>pure r) Q E s₃) E s₂:=by
  rw[hs o i]
  exact wpAny_operating (wpAny_mono h₂ (fun r s₃ h₃=>wpAny_bind (wpAny_letTemporaryGo (wpAny_pure h₃))) fun _ _ x=>x)
 first
  |exact wpAny_pure (wpAny_bind fin)
  |exact wpAny_bind (wpAny_pure (wpAny_bind fin))
  |exact wpAny_bind fin
theorem VX (I:Inv X pins σ H s)(g:Mu H a y o):s.TypeIs (.ref a) "dict":=by
 rcases g with⟨kvs,k,e,_,_⟩|⟨kvs,k,b,e,_,_,_⟩
 ·obtain⟨_,_,vs,_,dd⟩:=SJ I.hok e
  exact dd.typeIs
 ·obtain⟨_,_,xs,_,dd⟩:=SK I.hok e
  exact dd.typeIs
def kZ (td ty:TE):TE:=fun σ H Q=>td σ H fun x H1=>ty σ H1 fun y H2=>∃a v,x=.ref a/\Mu H2 a y (some v)/\Q v H2
def dZ (ty td:TE):TE:=fun σ H Q=>ty σ H fun y H1=>td σ H1 fun x H2=>∃a o,x=.ref a/\Mu H2 a y o/\Q (.bl (!o.isSome)) H2
def ka (td ty tv:TE):TS:=fun D σ H=>tv σ H fun v H1=>td σ H1 fun x H2=>ty σ H2 fun y H3=>∃a H4,x=.ref a/\ZI H3 a y v H4/\D.nx σ H4
section
variable {X:Cx}{o i e value:Expr}{pos pos' tpos:Pos}{td ty tv:TE}
theorem YL (hu:X.A.units+1<cLine)(ho:PE X o td)(hi:PE X i ty)(hs:i7 i):PE X (.Subscript o i pos) (kZ td ty):=by
 intro pins s σ H Q I h
 refine YK PySem.F.slot_dict_getitem.lookup hs (thn (ho pins s σ H _ I h) fun u s1 ⟨x,H1,I1,rx,q1⟩=>thn (hi pins s1 σ H1 _ I1 q1) fun iv s2 ⟨y,H2,I2,ry,a,v,ex,g,q2⟩=>?_)
 subst ex
 obtain rfl:u=Value.ref a:=rx
 exact⟨VX I2 g,ZJ hu I2 g ry fun w' s3 I3 rw'=>⟨v,H2,I3,rw',q2⟩⟩
theorem ZL (hu:X.A.units+1<cLine)(hi:PE X i ty)(ho:PE X o td):PC X .NotIn i o (dZ ty td):=by
 intro pins s σ H Q I h
 refine thn (hi pins s σ H _ I h) fun iv s1 ⟨y,H1,I1,ry,q1⟩=>thn (ho pins s1 σ H1 _ I1 q1) fun u s2 ⟨x,H2,I2,rx,a,ov,ex,g,q2⟩=>?_
 subst ex
 obtain rfl:u=Value.ref a:=rx
 exact dY hu I2 g ry fun s3 I3=>⟨.bl (!ov.isSome),H2,I3,rfl,q2⟩
theorem YM (hu:X.A.units+1<cLine)(ho:PE X o td)(hi:PE X i ty)(hv:PE X value tv)(hs:swapsWith value (some (.Subscript o i pos')) pos.line X.env=pure false):
  PS X (.Assign [.Subscript o i pos'] value pos) (ka td ty tv):=by
 intro pins s σ H D I h
 refine wpAny_Assign_Subscript (thn (hv pins s σ H _ I h) fun r s1 ⟨v,H1,I1,rv,q1⟩=>thn (ho pins s1 σ H1 _ I1 q1) fun u s2 ⟨x,H2,I2,rx,q2⟩=>thn (hi pins s2 σ H2 _ I2 q2) fun iv s3 ⟨y,H3,I3,ry,a,H4,ex,g,q3⟩=>?_) hs
 subst ex
 obtain rfl:u=Value.ref a:=rx
 exact ZK hu I3 g ry rv fun s4 I4=>⟨σ,H4,I4,q3⟩
end
theorem VY (h:Heap)(hb:sysModules<h.objs.size):Bk P w H (h.push {cls:=.type "dict",data:=.dict #[]}) h.objs.size (.dT []):=
 ⟨Nat.zero_le _,beq_eq_false_iff_ne.mpr (Ne.symm (Nat.ne_of_lt hb)),[],.nil,_,#[],0,Heap.get?_push_size _ rfl,⟨rfl,rfl,rfl⟩,rfl,rfl,List.nodup_nil⟩
def ag:TE:=fun _ H Q=>∀p,H p=none->Q (.ref p) (upd H p (.dT []))
section
variable {X:Cx}{pos:Pos}
theorem O9:PE X (.Dict [] [] pos) ag:=fun pins s σ H Q I h=>
 wpAny_Dict_empty ⟨.ref s.heap.objs.size,_,I.laid (a:=s.heap.objs.size) (o:=.dT []) (t':=s.toks) (fun _ _ q=>Heap.get?_push_of_some _ q) (Nat.le_refl _) (VY s.heap I.big),rfl,h _ (I.hok.fresh (Nat.le_refl _))⟩
end
structure M2 (X:Cx)(o:Expr)(m:Str)(apos:Pos)(e f:Expr)(cpos:Pos):Prop where
 base:attributeBase o m X.env (eval o X.env)=eval o X.env
 few:((backTo cpos (starEach [e,f] X.env)).all (fun x=>!x.1)&&(backToKw cpos (keywordEach [] X.env)).all (fun x=>x.1.isSome)
  &&decide (([e,f]:List Expr).length+([]:List Keyword).length+(if([]:List Keyword).isEmpty then 0 else 1)<30))=true
 line:(apos.endLine == cpos.line)=true
 trees:backTo cpos (starEach [e,f] X.env)=[(false,eval e X.env),(false,eval f X.env)]
def IsD (H:Hp)(a:Addr):Prop:=(∃kvs,Rd H a (.dK kvs))\/∃kvs,Rd H a (.dT kvs)
theorem i8 (I:Inv X pins σ H s)(d:IsD H a):
  s.TypeIs (.ref a) "dict"/\(∀b,Value.ref a=.ref b->∃ob,s.heap.get? b=some ob/\ob.dict=none)/\(a == sysModules)=false:=by
 rcases d with⟨kvs,e⟩|⟨kvs,e⟩
 ·obtain⟨_,hd,vs,_,dd⟩:=SJ I.hok e
  refine⟨dd.typeIs,fun b q=>?_,hd⟩
  cases q
  obtain⟨ob,_,_,h1,h2,_⟩:=dd
  exact⟨ob,h1,h2.2.1⟩
 ·obtain⟨_,hd,xs,_,dd⟩:=SK I.hok e
  refine⟨dd.typeIs,fun b q=>?_,hd⟩
  cases q
  obtain⟨ob,_,_,h1,h2,_⟩:=dd
  exact⟨ob,h1,h2.2.1⟩
section
variable {X:Cx}{pins:List (Addr×Obj)}{σ:St}{H:Hp}{s:Shared}{a:Addr}{y d:V}{u r:Value}{o:Option V}{A:Around}{E:Value->Shared->Prop}
theorem i9 (hu:A.units+1<cLine)(I:Inv X pins σ H s)(g:Mu H a y o)(ry:RelV y u)(rd:RelV d r)(h:∀w' s',Inv X pins σ H s'->RelV (o.getD d) w'->Q w' s'):
  wpAny (model X.prog X.w) A (call (.builtin "dict.get") [.ref a,u,r]) Q E s:=by
 rcases g with⟨kvs,k,e,ey,l⟩|⟨kvs,k,b,e,ey,eb,l⟩
 ·subst ey
  obtain⟨z,hd,vs,rel,dd⟩:=SJ I.hok e
  refine call_meetsIn PySem.F.slot_dict_get dd.typeIs PySem.F.entry_dict_get (PySem.F.args_dict_get_3 _ _ _) (meets_dict_get_default (BQ X.prog X.w) a (SH ry) hd r) ⟨_,dd.mapOf,h _ _ (I.tok _) ?_⟩
  rw[l]
  exact(rel.val k).getD rd
 ·subst ey
  cases(show u=Value.ref b from ry)
  obtain⟨z,hd,xs,rel,dd⟩:=SK I.hok e
  refine call_meetsIn PySem.F.slot_dict_get dd.typeIs PySem.F.entry_dict_get (PySem.F.args_dict_get_3 _ _ _) (meetsH_dict_get_default (tupleKind (BQ X.prog X.w)) a b hd r) ⟨tupleKind_room_in1 hu,k,xs,Mt I.hok eb,dd,h _ _ (I.tok _) ?_⟩
  rw[l]
  exact(rel.val k).getD rd
end
def jA (td ty tx:TE):TE:=fun σ H Q=>td σ H fun x H1=>∃a,x=.ref a/\IsD H1 a/\ty σ H1 fun y H2=>tx σ H2 fun z H3=>∃o,Mu H3 a y o/\Q (o.getD z) H3
section
variable {X:Cx}{o e f:Expr}{apos cpos:Pos}{td ty tx:TE}
theorem ah (hu:X.A.units+1<cLine)(ho:PE X o td)(he:PE X e ty)(hf:PE X f tx)(m:M2 X o "get" apos e f cpos):PE X (.Call (.Attribute o "get" apos) [e,f] [] cpos) (jA td ty tx):=by
 intro pins s σ H Q I h
 refine wpAny_Call_method m.base m.few m.line PySem.F.plainAttrs_dict PySem.F.slot_dict_get PySem.F.type_dict_get (thn (ho pins s σ H _ I h) fun u s1 ⟨x,H1,I1,rx,a,ex,d,q1⟩=>?_)
 subst ex
 obtain rfl:u=Value.ref a:=rx
 obtain⟨t1,t2,_⟩:=i8 I1 d
 refine⟨t1,t2,?_⟩
 rw[m.trees]
 refine Calls.callWith_builtin rfl (Calls.evalArgs_plain (Calls.spliced_cons (thn (he pins s1 σ H1 _ I1 q1) fun iv s2 ⟨y,H2,I2,ry,q2⟩=>
  Calls.spliced_cons (thn (hf pins s2 σ H2 _ I2 q2) fun fv s3 ⟨z,H3,I3,rz,ov,g,q3⟩=>Calls.spliced_nil ?_))))
 exact i9 hu I3 g ry rz fun w' s4 I4 rw'=>⟨_,H3,I4,rw',q3⟩
end
section
variable {X:Cx}{pins:List (Addr×Obj)}{σ:St}{H:Hp}{s:Shared}{a:Addr}{kvs:List (Key×V)}{A:Around}{E:Value->Shared->Prop}
end
section
variable {X:Cx}{pins:List (Addr×Obj)}{σ:St}{H:Hp}{s:Shared}{a:Addr}{y:V}{u:Value}{A:Around}{E:Value->Shared->Prop}
end
section
variable {prog:Program}{w:World}{A:Around}{E:Value->Shared->Prop}
end
section
variable {X:Cx}
end
section
variable {X:Cx}{pins:List (Addr×Obj)}{σ:St}{H:Hp}{s:Shared}{h':Heap}
theorem Inv.dc {t':Nat}{ch:List Addr}(I:Inv X pins σ H s)(k:∀b o,b∉ch->s.heap.get? b=some o->h'.get? b=some o)(hf:∀b∈ch,Ki X pins H b):Inv X pins σ H {s with heap:=h',toks:=t'}:=by
 have nit:∀b u,H b=some u->b∉ch:=fun b u e z=>by
  have q:=(hf b z).1
  rw[q]at e;cases e
 refine I.step (g':=s.gens) (d':=s.drawn) (ch:=ch) (fun b hb=>⟨(hf b hb).2.2.2.1,(hf b hb).2.1,(hf b hb).2.2.2.2.1,(hf b hb).2.2.2.2.2⟩) (fun b o _ _ hc e _=>k b o hc e) (fun b o _ _ hc e _=>⟨o.slots,k b o hc e⟩)
  (fun _ _ _ _ n=>n) (fun b o hc e=>⟨o,k b o hc e⟩) (fun _ _ e=>e) (fun _ _ _ e=>e) (fun b ps e=>⟨#[],by rw[e];simp⟩) (fun m hm=>?_) (fun b u e=>?_) I.bare
 ·obtain⟨o,es,ep,ho,r⟩:=hm
  exact⟨o,es,ep,k _ o (fun z=>(hf _ z).2.1 rfl) ho,r⟩
 ·refine(I.hok b u e).Io (fun c v hc q=>k c v ?_ q) (fun _ q=>q) fun _ _ q=>q
  rcases hc with z|z
  ·rw[z];exact nit b u e
  ·exact nit c _ z
theorem Inv.Mv {t':Nat}{ch:List Addr}{T:Addr}{ob:HO}(I:Inv X pins σ H s)(k:∀b o,b∉ch->s.heap.get? b=some o->h'.get? b=some o)(hf:∀b∈ch,Ki X pins H b)(hT:s.heap.objs.size<=T)
  (new:Bk X.prog X.w (upd H T ob) h' T ob):Inv X pins σ (upd H T ob) {s with heap:=h',toks:=t'}:=by
 have hn:H T=none:=I.hok.fresh hT
 have nit:∀b u,H b=some u->b∉ch:=fun b u e z=>by
  have q:=(hf b z).1
  rw[q]at e;cases e
 refine I.step (g':=s.gens) (d':=s.drawn) (ch:=ch) (fun b hb=>⟨(hf b hb).2.2.2.1,(hf b hb).2.1,(hf b hb).2.2.2.2.1,(hf b hb).2.2.2.2.2⟩) (fun b o _ _ hc e _=>k b o hc e) (fun b o _ _ hc e _=>⟨o.slots,k b o hc e⟩)
  (fun b o _ e n=>?_) (fun b o hc e=>⟨o,k b o hc e⟩) (fun b xs e=>?_) (fun b o u e=>?_) (fun b ps e=>⟨#[],?_⟩) (fun m hm=>?_) (fun b u e=>?_) I.bare
 ·rw[AI (Nat.ne_of_lt (Nat.lt_of_lt_of_le (Heap.lt_size e) hT))];exact n
 ·rw[AI (AM e hn)];exact e
 ·rw[AI (AM e hn)];exact e
 ·rw[AI (AM e hn),e];simp
 ·obtain⟨o,es,ep,ho,r⟩:=hm
  exact⟨o,es,ep,k _ o (fun z=>(hf _ z).2.1 rfl) ho,r⟩
 ·by_cases hb:b=T
  ·subst hb
   rw[AB]at e
   cases e
   exact new
  ·rw[AI hb]at e
   refine(I.hok b u e).Io (fun c v hc q=>k c v ?_ q) (fun c q=>by rw[AI (AM q hn)];exact q) fun c xs q=>by rw[AI (AM q hn)];exact q
   rcases hc with z|z
   ·rw[z];exact nit b u e
   ·exact nit c _ z
theorem Inv.lock (I:Inv X pins σ H s)(h:H d=some u)(mu:Mut (some u)):∃od,Inv X pins σ (upd H d (.frz od u)) s:=by
 have x:=I.hok d u h
 have ex:∃od,s.heap.get? d=some od:=by
  cases u with
  |lst xs=>obtain⟨_,_,_,_,e⟩:=x;exact⟨_,e⟩
  |dK kvs=>obtain⟨_,_,_,_,o,_,_,e,_⟩:=x;exact⟨o,e⟩
  |dT kvs=>obtain⟨_,_,_,_,o,_,_,e,_⟩:=x;exact⟨o,e⟩
  |set S n=>obtain⟨o,_,_,_,e,_⟩:=x;exact⟨o,e⟩
  |ins C dx fs=>obtain⟨_,_,_,e,_⟩:=x;exact⟨_,e⟩
  |ext φ=>obtain⟨_,⟨_,e⟩,_⟩:=x;exact⟨_,e⟩
  |_=>exact False.elim mu
 obtain⟨od,e⟩:=ex
 have new:Bk X.prog X.w (upd H d (.frz od u)) s.heap d (.frz od u):=by
  refine⟨e,x.Io (fun b v _ q=>q) (fun b q=>?_) fun b xs q=>?_⟩
  ·rw[AI (fun z=>by rw[z,h]at q;cases q;exact mu)];exact q
  ·rw[AI (fun z=>by rw[z,h]at q;cases q;exact mu)];exact q
 exact⟨od,I.write (x:=d) (e:=d) (t':=s.toks) (h':=s.heap) (by rw[h];exact mu) (.inl rfl) (fun b v _ q=>q) ⟨od,e⟩ new⟩
theorem Inv.YN (I:Inv X pins σ H s)(h:H d=some u)(mu:Mut (some u)):∀o' u',X.H_0 d≠some (.frz o' u'):=fun o' u' e=>by
 have q:=I.base.Mg d o' u' e
 rw[h]at q
 cases q
 exact mu
theorem Inv.unlock (I:Inv X pins σ H s)(h:H d=some (.frz od u))(hn:∀o' u',X.H_0 d≠some (.frz o' u')):Inv X pins σ (upd H d u) s:=by
 have neH:∀b o,H b=some o->(∀o' u',o≠.frz o' u')->b≠d:=fun b o e hne z=>by
  rw[z,h]at e
  cases e
  exact hne _ _ rfl
 have neN:∀b,H b=none->b≠d:=fun b e z=>by rw[z,h]at e;cases e
 refine⟨I.ok,I.os,I.bare,⟨I.base.keep,I.base.slot,fun b o e n hx=>?_,I.base.there,fun b xs e=>?_,fun b o x e=>?_,fun b ps e=>?_⟩,I.loc,I.cell,?_,fun x c e=>?_,fun p hp=>?_,fun b o e=>?_,I.len⟩
 ·rw[AI (neN b (I.base.free b o e n hx))];exact I.base.free b o e n hx
 ·have q:=I.base.Oo b xs e
  rw[AI (neH b _ q (fun _ _ z=>nomatch z))];exact q
 ·have q:=I.base.Mg b o x e
  rw[AI (fun z=>by rw[z]at e;exact hn _ _ e)];exact q
 ·obtain⟨m,q⟩:=I.base.Oq b ps e
  exact⟨m,by rw[AI (neH b _ q (fun _ _ z=>nomatch z))];exact q⟩
 ·rw[AI (neN _ I.free)];exact I.free
 ·rw[AI (neN c (I.Di x c e))];exact I.Di x c e
 ·obtain⟨e,n,r⟩:=I.pin p hp
  exact⟨e,by rw[AI (neN _ n)];exact n,r⟩
 ·by_cases hb:b=d
  ·rw[hb,AB]at e
   cases e
   rw[hb]
   obtain⟨_,x⟩:=I.hok d _ h
   exact x.Io (fun c v _ q=>q) (fun c q=>by rw[AI (neH c _ q (fun _ _ z=>nomatch z))];exact q) fun c xs q=>by rw[AI (neH c _ q (fun _ _ z=>nomatch z))];exact q
  ·rw[AI hb]at e
   exact(I.hok b o e).Io (fun c v _ q=>q) (fun c q=>by rw[AI (neH c _ q (fun _ _ z=>nomatch z))];exact q) fun c xs q=>by rw[AI (neH c _ q (fun _ _ z=>nomatch z))];exact q
end
def kc (t:TS):TS:=fun D σ H=>∃d u,H d=some u/\Mut (some u)/\∀od,t ⟨fun σ' H'=>H' d=some (.frz od u)/\D.nx σ' (upd H' d u),fun v H'=>H' d=some (.frz od u)/\D.rt v (upd H' d u),fun σ' H'=>H' d=some (.frz od u)/\D.bk σ' (upd H' d u),fun σ' H'=>H' d=some (.frz od u)/\D.ct σ' (upd H' d u)⟩ σ (upd H d (.frz od u))
section
variable {X:Cx}
theorem Tr {st:Stmt}{t:TS}(h:PS X st t):PS X st (kc t):=by
 intro pins s σ H D I hw
 obtain⟨d,u,hd,mu,hw⟩:=hw
 obtain⟨od,I1⟩:=I.lock hd mu
 refine thn (h pins s σ _ _ I1 (hw od)) fun f s1 q=>?_
 cases f with
 |next=>obtain⟨σ',H',I2,e,q⟩:=q;exact⟨σ',_,I2.unlock e (I.YN hd mu),q⟩
 |brk=>obtain⟨σ',H',I2,e,q⟩:=q;exact⟨σ',_,I2.unlock e (I.YN hd mu),q⟩
 |cont=>obtain⟨σ',H',I2,e,q⟩:=q;exact⟨σ',_,I2.unlock e (I.YN hd mu),q⟩
 |ret v=>obtain⟨x,σ',H',I2,r,e,q⟩:=q;exact⟨x,σ',_,I2.unlock e (I.YN hd mu),r,q⟩
theorem XG (I:Inv X pins σ H s)(o:Obj)
  (T:Turn X.prog X.w X.K tg J [s.heap.objs.size] s.heap.objs.size tn)(st:tn 0 (s.heap.push o))(q:R J H):PIE X pins σ tg R (.ref s.heap.objs.size) {s with heap:=s.heap.push o,toks:=tk}:=by
 refine⟨s.heap.objs.size,[s.heap.objs.size],tn,J,H,rfl,I.kept fun b ob e=>Heap.get?_push_of_some _ e,T,st,fun b hb=>?_,q⟩
 have e:b=s.heap.objs.size:=by simpa using hb
 subst e
 exact I.TZ (Nat.le_refl _) (I.hok.fresh (Nat.le_refl _))
end
section
variable {X:Cx}{tg:Expr}
end
def Its (x:Str):It:=⟨fun i _=>i<x.cps.size,fun i H v H'=>H'=H/\∃c,x.cps[i]? =some c/\v=.str ⟨#[c]⟩,fun i _=>x.cps.size<=i⟩
theorem VZ {P:Program}{w:World}{K:PySem.W.Frag}{tg:Expr}(it:Addr)(x:Str)(t:Tok)(ty:String)(hty:ty="str_ascii_iterator"\/ty="str_iterator"):
  Turn P w K tg (Its x) [it] it (fun i h=>h.IsStrIter it ty x t i) where
 mem:=by simp
 obj:=fun i h st b hb=>by
  have e:b=it:=by simpa using hb
  subst e
  obtain⟨o,e,c,d⟩:=st
  exact⟨o,e,fun v z=>by rw[d]at z;cases z⟩
 keep:=fun i h h' st k=>let⟨o,ho,r⟩:=st;⟨o,k it (by simp) o ho,r⟩
 item:=by
  intro X hP hw hK hc i pins s σ H E I hf st hg
  subst hP hw hK
  obtain⟨f0,f1,f2,f3,f4,f5⟩:=hf it (by simp)
  have W:Walks X.prog X.w X.A it [it] [it] x.cps.size (SignAt x) (fun i h=>h.IsStrIter it ty x t i):=by
   rcases hty with e|e
   ·rw[e];exact Walks.strAscii (I.ok.hd hc) it x t
   ·rw[e];exact Walks.strWide (I.ok.hd hc) it x t
  have hno:["enumerate","zip","dict_itemiterator","dict_reverseitemiterator","odict_iterator","itertools.zip_longest","itertools.pairwise"].contains ty=false:=by
   rcases hty with e|e
   ·rw[e];decide
   ·rw[e];decide
  refine W.item i s _ _ hg st fun v h' tk hv st' kk=>?_
  obtain⟨c,u,hcx,rfl⟩:=hv
  have I1:Inv X pins σ H {s with heap:=h',toks:=tk}:=I.turned (fun b o hb e=>kk b o (by simpa using hb) e) f0 f1 f3 f4 f5
  obtain⟨oi,e,cc,dd⟩:=id st'
  exact⟨_,rfl,YD (s:={s with heap:=h',toks:=tk}) e cc dd hno ⟨.str ⟨#[c]⟩,H,I1,⟨u,rfl⟩,⟨rfl,c,hcx,rfl⟩,st',fun b hb=>(hf b hb).1⟩⟩
 done:=by
  intro X hP hw hK hc i pins s σ H E I hf st hg
  subst hP hw hK
  obtain⟨f0,f1,f2,f3,f4,f5⟩:=hf it (by simp)
  have hx:x.cps[i]? =none:=Array.getElem?_eq_none hg
  rcases hty with e|e
  ·rw[e]at st
   exact wpAny_pyNext_ascii_end (I.ok.hd hc) st hx fun h' eb=>⟨rfl,I.turned (t':=s.toks) (fun b o hb e=>eb b o hb e) f0 f1 f3 f4 f5⟩
  ·rw[e]at st
   exact wpAny_pyNext_wide_end (I.ok.hd hc) st hx fun h' eb=>⟨rfl,I.turned (t':=s.toks) (fun b o hb e=>eb b o hb e) f0 f1 f3 f4 f5⟩
 self:=fun A i s Q E st h=>by
  rcases hty with e|e
  ·rw[e]at st;exact wpAny_pyIter_striter_ascii st h
  ·rw[e]at st;exact wpAny_pyIter_striter_wide st h
def mx (te:TE):TI:=fun σ H R=>te σ H fun v H1=>∃x,v=.str x/\R (Its x) H1
theorem jB {X:Cx}{tg e:Expr}{te:TE}(he:PE X e te):PI X tg e (mx te):=by
 intro pins s σ H R I h
 refine thn (he pins s σ H _ I h) fun v s1 ⟨y,H1,I1,r1,x,ex,q⟩=>?_
 subst ex
 obtain⟨t,rfl⟩:=r1
 cases ha:x.cps.all (· <128)
 ·exact wpAny_pyIter_wide ha (XG (tk:=s1.toks) I1 _ (VZ _ x t "str_iterator" (.inr rfl)) ⟨_,Heap.get?_push_size _ rfl,rfl,rfl⟩ q)
 ·exact wpAny_pyIter_ascii ha (XG (tk:=s1.toks) I1 _ (VZ _ x t "str_ascii_iterator" (.inl rfl)) ⟨_,Heap.get?_push_size _ rfl,rfl,rfl⟩ q)
section
variable {prog:Program}{w:World}{A:Around}{E:Value->Shared->Prop}{s:Shared}
end
theorem XH {α β:Type}{G:α->β->Prop}{l₁:List α}{l₂:List β}(h:Paired G l₁ l₂):∀{i:Nat}{a:α},l₁[i]? =some a->∃b,l₂[i]? =some b/\G a b:=by
 induction h with
 |nil=>intro i a e;simp at e
 |@cons a b l₁ l₂ r t ih=>
  intro i a' e
  cases i with
  |zero=>
   simp only[List.getElem?_cons_zero,Option.some.injEq]at e
   subst e
   exact⟨b,rfl,r⟩
  |succ j=>
   simp only[List.getElem?_cons_succ]at e ⊢
   exact ih e
section
variable {X:Cx}{pins:List (Addr×Obj)}{σ:St}{H:Hp}{s:Shared}{d:Addr}{o:Obj}
end
theorem YO {o:Obj}{es es':Array DictEntry}{ep ep':Nat}(h:o.data=.dict es ep)(h':o.data=.dict es' ep'):es'=es/\ep'=ep:=by
 rw[h]at h'
 cases h'
 exact⟨rfl,rfl⟩
section
variable {P:Program}{w:World}{K:PySem.W.Frag}{tg:Expr}{d:Addr}{o:Obj}{es:Array DictEntry}{ep:Nat}
end
section
variable {X:Cx}{tg e:Expr}{td:TE}{apos cpos:Pos}
end
def Ite (K:PySem.W.Frag)(a:Addr):It:=
 ⟨fun i H=>∃(xs:List V) (x:V),SqL K H a xs/\xs[i]? =some x,fun i H v H'=>∃T x,v=.ref T/\H T=none/\H'=upd H T (.tup [.int (i:Nat),x])/\∀xs,SqL K H a xs->xs[i]? =some x,fun i H=>∃xs:List V,SqL K H a xs/\xs.length<=i⟩
theorem ZM {P:Program}{w:World}{K:PySem.W.Frag}{elts:List Expr}{kk:Nat}{tpos:Pos}(a e it:Addr):
  Turn P w K (.Tuple elts kk tpos) (Ite K a) [e,it] e (fun i h=>(∃old,IsEnum h e it ((i:Nat):Int) old)/\h.IsListIter it a i/\e≠it) where
 mem:=by simp
 obj:=fun i h st b hb=>by
  obtain⟨⟨old,he⟩,⟨o,ho,hc,hd⟩,_⟩:=st
  have e':b=e\/b=it:=by simpa using hb
  rcases e' with z|z
  ·rw[z];exact⟨_,he,fun v q=>nomatch q⟩
  ·rw[z];exact⟨o,ho,fun v q=>by rw[hd]at q;cases q⟩
 keep:=fun i h h' st k=>let⟨⟨old,he⟩,hi,hne⟩:=st;⟨⟨old,k e (by simp) _ he⟩,hi.at fun o q=>k it (by simp) o q,hne⟩
 item:=by
  intro X hP hw hK hc i pins s σ H E I hf st hg
  subst hP hw hK
  obtain⟨⟨old,he⟩,hit,hne⟩:=st
  obtain⟨xs,x,hq,hx⟩:=hg
  obtain⟨its,rv,p,hz⟩:=I.list hq
  obtain⟨u,hu,ru⟩:=rv.get hx
  have hel:e<s.heap.objs.size:=Heap.lt_size he
  have hil:it<s.heap.objs.size:=by obtain⟨_,q,_⟩:=hit;exact Heap.lt_size q
  refine wpAny_pyNext_enum_item he hit p.isList (x:=u) (by simpa using hu) hne fun h' ho hit' hT hsz hk=>?_
  refine⟨_,rfl,wpAny_letOwnedTupleGo_enum (s:={s with heap:=h',toks:=s.toks+1}) ho fun h'' he' sb=>?_⟩
  have hT2:h''.get? s.heap.objs.size=some {cls:=.type "tuple",data:=.seq #[.int i s.toks,u]}:=(sb.2 _ (Nat.ne_of_gt hel)).trans hT
  have new:Bk X.prog X.w (upd H s.heap.objs.size (.tup [.int (i:Nat),x])) h'' s.heap.objs.size (.tup [.int (i:Nat),x]):=
   ⟨by show 2<=sizeLine;decide,[.int i s.toks,u],.cons ⟨_,rfl⟩ (.cons ru .nil),⟨_,hT2,rfl,_,rfl⟩⟩
  have I1:Inv X pins σ (upd H s.heap.objs.size (.tup [.int (i:Nat),x])) {s with heap:=h'',toks:=s.toks+1}:=
   I.Mv (ch:=[e,it]) (fun b ob hb q=>(sb.2 b (fun z=>hb (by simp[z]))).trans (hk b ob (fun z=>hb (by simp[z])) (fun z=>hb (by simp[z])) q)) hf (Nat.le_refl _) new
  refine⟨.ref s.heap.objs.size,_,I1,rfl,⟨_,x,rfl,I.hok.fresh (Nat.le_refl _),rfl,fun ys hy=>by rw[I.O3 hy hq];exact hx⟩,⟨⟨u,?_⟩,hit'.at fun o q=>(sb.2 it (Ne.symm hne)).trans q,hne⟩,fun b hb=>?_⟩
  ·have e1:((i+1:Nat):Int)=(i:Int)+1:=by omega
   rw[e1];exact he'
  ·have hb':b<s.heap.objs.size:=by
    have e':b=e\/b=it:=by simpa using hb
    rcases e' with z|z
    ·rw[z];exact hel
    ·rw[z];exact hil
   rw[AI (Nat.ne_of_lt hb')]
   exact(hf b hb).1
 done:=by
  intro X hP hw hK hc i pins s σ H E I hf st hg
  subst hP hw hK
  obtain⟨⟨old,he⟩,hit,hne⟩:=st
  obtain⟨xs,hq,hx⟩:=hg
  obtain⟨its,rv,p,hz⟩:=I.list hq
  obtain⟨f0,f1,f2,f3,f4,f5⟩:=hf it (by simp)
  have hl:=rv.length
  exact wpAny_pyNext_enum_end (I.ok.hd hc) he hit p.isList (by simp;omega) fun h' eb=>⟨rfl,I.turned (t':=s.toks) (fun b o hb q=>eb b o hb q) f0 f1 f3 f4 f5⟩
 self:=fun A i s Q E st h=>let⟨⟨_,he⟩,_⟩:=st;wpAny_pyIter_enum he h
def kd (K:PySem.W.Frag)(ta:TA):TI:=fun σ H R=>ta σ H fun vs H1=>∃a xs,vs=[.ref a]/\SqL K H1 a xs/\R (Ite K a) H1
theorem KJ {X:Cx}{e:Expr}{ta:TA}{p pos tpos:Pos}{elts:List Expr}{kk:Nat}(hg:Gl X "enumerate")(hm:X.mg "enumerate"=none)(ha:PA X [e] ta)(hs:starEach [e] X.env=[(false,eval e X.env)]:=by rfl):
  PI X (.Tuple elts kk tpos) (.Call (.Name "enumerate" p) [e] [] pos) (kd X.K ta):=by
 intro pins s σ H R I h
 refine Call_ (JQ I hg hm boot_enumerate (PyProof.Rows.callWith_type1 (thn (ha pos pins s σ H _ I h) fun us s1 ⟨vs,H1,I1,r1,q1⟩=>?_) hs rfl))
 obtain⟨a,xs,ex,hq,q⟩:=q1
 subst ex
 cases r1 with
 |cons r rr=>
  cases rr
  cases r
  obtain⟨its,rv,p',hz⟩:=I1.list hq
  refine call_enumerate_list p'.isList fun h' he hit hsz hk=>wpAny_pyIter_enum he ?_
  have I2:Inv X pins σ H1 {s1 with heap:=h'}:=I1.kept (t':=s1.toks) hk
  refine⟨s1.heap.objs.size+1,[s1.heap.objs.size+1,s1.heap.objs.size],_,_,H1,rfl,I2,ZM a (s1.heap.objs.size+1) s1.heap.objs.size,⟨⟨.none,he⟩,hit,Nat.succ_ne_self _⟩,fun b hb=>?_,q⟩
  have e':b=s1.heap.objs.size+1\/b=s1.heap.objs.size:=by simpa using hb
  have hle:s1.heap.objs.size<=b:=by
   rcases e' with z|z
   ·rw[z];exact Nat.le_add_right _ _
   ·rw[z];exact Nat.le_refl _
  exact I1.TZ hle (I1.hok.fresh hle)
theorem ZN:bootBuiltins "zip"=some (.type "zip"):=by decide +kernel
end L2
section
namespace ke
open PySem PyProof.Rows
theorem N5 (m:Nat):∀n:Nat,(m ^^^ n)+2*(m&&& n)=m+n:=by
 induction m using Nat.strongRecOn with
 |_ m ih=>
  intro n
  by_cases h0:m=0
  ·subst h0
   simp
  ·have ih':=ih (m / 2) (by omega) (n / 2)
   rw[<-Nat.xor_div_two,<-Nat.and_div_two]at ih'
   have o1:=@Nat.xor_mod_two_eq_one m n
   have a1:=@Nat.and_mod_two_eq_one m n
   omega
theorem ZO (hx:0<=x)(hy:0<=y):Builtin.bitXor x y=((x.toNat ^^^ y.toNat:Nat):Int):=by
 have e:=N5 x.toNat y.toNat
 rw[bitXor_and,bitAnd_pp hx hy]
 omega
end ke
end
section
namespace TL
open PySem PySem.Builtin PySem.Builtin.Str PySem.StrLaws
abbrev tl (x:Str):List Nat:=x.cps.toList
theorem jC (x:Str):x.length=(tl x).length:=by simp[tl,Str.length]
def de (n:Nat):List Nat:=(Nat.toDigits 10 n).map Char.toNat
theorem XI (n:Nat):tl (Str.ofString (toString ((n:Nat):Int)))=de n:=PySem.W.KIN.signs_num n
theorem Va (hk:0<k)(h:n<10 ^ k):(de n).length<=k:=by
 have z:=PyProof.Rows.toString_length_le (v:=(n:Int)) (by omega) hk (by
  have e:((10:Int) ^ k)=((10 ^ k:Nat):Int):=by
   first
    |exact(Int.natCast_pow 10 k).symm
    |simp
  rw[e]
  first|exact Int.ofNat_lt.mpr h|omega)
 rw[jC,XI]at z
 exact z
end TL
end
namespace L2
open PySem PySem.Spec PyProof.Rows
section
variable {X:Cx}{pins:List (Addr×Obj)}{σ:St}{H:Hp}{s:Shared}{Q:VK}
end
section
variable {X:Cx}
end
section
variable {X:Cx}{o e:Expr}{to te:TE}
end
section
variable {X:Cx}
end
end L2
namespace Att
open PySem PySem.W PySem.Calls PyProof.Rows
section
variable {prog:Program}{w:World}{A:Around}{E:Value->Shared->Prop}{s:Shared}{K:Frag}
end
end Att
namespace L2
open PySem PySem.Spec PyProof.Rows
def inClass (s:Stmt)(j:Nat):Stmt:=match s with
 | .ClassDef _ _ _ body _ _ _ _ _ _ _=>body.getD j (.Pass ⟨0,0,0,0⟩)
 |_=>.Pass ⟨0,0,0,0⟩
def Dz (s:Stmt):Arguments:=match s with
 | .FunctionDef _ a _ _ _ _ _ _ _ _=>a
 |_=>{posonlyargs:=[],args:=[],vararg:=none,kwonlyargs:=[],kw_defaults:=[],kwarg:=none,defaults:=[]}
def Cb (s:Stmt):List Stmt:=match s with
 | .FunctionDef _ _ b _ _ _ _ _ _ _=>b
 |_=>[]
def AG (s:Stmt):Scope:=match s with
 | .FunctionDef _ _ _ _ _ _ sc _ _ _=>sc
 |_=>{kind:=.function,names:=[],isGenerator:=false,isCoroutine:=false}
abbrev CX0:CXT:=fun _ _ _ _ _ _=>False
abbrev E0:XK:=fun _ _ _=>False
theorem AU:Passes CX0 X E0:=fun _ _ _ _ _ _ _ h=>h.elim
structure Fun (K:PySem.W.Frag)(x qual:Str)(st:Stmt)(f:Addr)(fd:FuncData):Prop where
 ex:∃(oc:Value) (od:Option Addr) (kV doc pm:Value) (an:Option Addr) (cdv ct:Value) (osl:Array (Option Value)),
  fd=PySem.W.fnOf x qual (Dz st) (Cb st) (AG st) .none kV doc pm an cdv ct/\K.lookup f=some ⟨oc,od,.func fd,osl⟩/\PySem.W.codeIn K cdv qual=true
 kp:PySem.W.keepIn K (.ref f)=true
section
variable {P:Program}{w:World}{K:PySem.W.Frag}{mg:Str->Option Value}{base:Heap}
theorem Fun.ok {x qual:Str}{st:Stmt}{f:Addr}{fd:FuncData}{N ps:List Str}{k:Nat}{sp:Sp}(F:Fun K x qual st f fd)(S:AL N ps (AG st))(len:∀vs H Q E,sp vs H Q E->vs.length=ps.length)
  (hbody:∀(cdv:Value) (A:Around) (outer:List Env) (s:Shared) (H:Hp) (vs:List V) (Q:VK) (E:XK),C1 k (A.deeper (envOfC qual (AG st) s.heap.objs.size f cdv))->sp vs H Q E->
   ∃t,PSs (Fp CX0 P w K mg base N qual (AG st) f cdv A outer s H E).nox (Cb st) t/\t {nx:=fun _ H'=>Q .non H',rt:=Q} (start N vs) H):Ls P w K mg base CX0 (k+1) f fd ps sp:=by
 obtain⟨oc,od,kV,doc,pm,an,cdv,ct,osl,rfl,lk,hcd⟩:=F.ex
 refine ff lk hcd S len fun A outer s H vs Q E hr hsp=>?_
 obtain⟨t,h,q⟩:=hbody cdv A outer s H vs Q E hr hsp
 exact⟨t,h.nox,q⟩
theorem jD {x qual:Str}{st:Stmt}{f:Addr}{oc:Value}{od an:Option Addr}{osl:Array (Option Value)}{kV doc pm cdv ct:Value}(l:K.lookup f=some ⟨oc,od,.func (PySem.W.fnOf x qual (Dz st) (Cb st) (AG st) .none kV doc pm an cdv ct),osl⟩)
  (c:PySem.W.codeIn K cdv qual=true)(k:PySem.W.keepIn K (.ref f)=true):Fun K x qual st f (PySem.W.fnOf x qual (Dz st) (Cb st) (AG st) .none kV doc pm an cdv ct):=⟨⟨oc,od,kV,doc,pm,an,cdv,ct,osl,rfl,l,c⟩,k⟩
end
theorem PB (hr:C1 k A):A.units+1<cLine:=Nat.lt_of_le_of_lt (Nat.add_le_add_left (by decide:1<=64) _) hr.units
section
variable {X:Cx}
theorem pv (i:Nat)(hN:X.N[i]? =some x:=by rfl)(hv:Vis X.env.scope x:=by first|exact Or.inl rfl|exact Or.inr (Or.inl rfl)|exact Or.inr (Or.inr rfl))(hd:(x == ("__debug__":Str))=false:=by decide)
  (hcd:(x == ("__classdict__":Str))=false:=by decide):PE X (.Name x pos) (Ae i):=iY hN hv hd hcd
end
theorem N6 {A B:Prop}(h:B):if false=true then A else B:=by
 rw[if_neg Bool.false_ne_true]
 exact h
theorem LB {A B:Prop}(h:A):if true=true then A else B:=by
 rw[if_pos rfl]
 exact h
theorem BY {c A B:Prop}[Decidable c](h1:c->A)(h2:¬c->B):if c then A else B:=by
 by_cases h:c
 ·rw[if_pos h]
  exact h1 h
 ·rw[if_neg h]
  exact h2 h
def AK (H H':Hp):Prop:=∀b o,H b=some o->H' b=some o
theorem AK.refl (H:Hp):AK H H:=fun _ _ h=>h
theorem AK.trans (a:AK H H1)(b:AK H1 H2):AK H H2:=fun c o h=>b c o (a c o h)
theorem AK.free (e:AK H H')(h:H' l=Option.none):H l=Option.none:=by
 cases q:H l with
 |none=>rfl
 |some o=>
  rw[e l o q]at h
  cases h
theorem AK.seq {K:PySem.W.Frag}{H H':Hp}{a:Addr}{xs:List V}(e:AK H H')(h:SqL K H a xs):SqL K H' a xs:=by
 rcases h with(h|⟨o,h⟩)|h
 ·exact .inl (.inl (e _ _ h))
 ·exact .inl (.inr ⟨o,e _ _ h⟩)
 ·exact .inr h
section
variable {κ:Type} [DecidableEq κ]
theorem Vb {kvs:List (κ×V)}{k:κ}(h:C3 kvs k=none):¬k∈kvs.map (·.1):=by
 intro m
 obtain⟨p,hp,e⟩:=List.mem_map.mp m
 have q:(kvs.any fun kv=>decide (kv.1=k))=true:=List.any_eq_true.mpr ⟨p,hp,decide_eq_true e⟩
 rw[Hc,h]at q
 exact absurd q (by simp)
theorem YQ:∀{l:List κ}{k:κ},l.Nodup->¬k∈l->(l++[k]).Nodup
 |[],k,_,_=>by simp
 |a::r,k,h,hk=>by
  obtain⟨h1,h2⟩:=List.nodup_cons.mp h
  show(a::(r++[k])).Nodup
  refine List.nodup_cons.mpr ⟨fun m=>?_,YQ h2 fun m=>hk (List.mem_cons.mpr (Or.inr m))⟩
  rcases List.mem_append.mp m with q|q
  ·exact h1 q
  ·exact hk (List.mem_cons.mpr (Or.inl (List.mem_singleton.mp q).symm))
theorem dh {kvs:List (κ×V)}{k:κ}(v:V)(hn:(kvs.map (·.1)).Nodup)(h:C3 kvs k=none):((putK kvs k v).map (·.1)).Nodup:=by
 rw[af v h,List.map_append]
 exact YQ hn (Vb h)
end
theorem at_of {xs:List V}{z:Int}{j:Nat}{v:V}(e:z=(j:Int))(h:xs[j]? =some v):atI xs z=some v:=by
 rw[e]
 exact BO h
section
variable {P:Program}{w:World}
theorem Bk.there (x:Bk P w H h a o):∃ob,h.get? a=some ob:=by
 cases o with
 |lst xs=>obtain⟨_,_,_,_,e⟩:=x;exact⟨_,e⟩
 |tup xs=>obtain⟨_,_,_,ob,e,_⟩:=x;exact⟨ob,e⟩
 |dK kvs=>obtain⟨_,_,_,_,o,_,_,e,_⟩:=x;exact⟨o,e⟩
 |dT kvs=>obtain⟨_,_,_,_,o,_,_,e,_⟩:=x;exact⟨o,e⟩
 |set S n=>obtain⟨o,_,_,_,e,_⟩:=x;exact⟨o,e⟩
 |ins C dx fs=>obtain⟨_,_,_,e,_⟩:=x;exact⟨_,e⟩
 |own y=>exact x
 |xd fs=>obtain⟨_,⟨o,_,_,e,_⟩,_⟩:=x;exact⟨o,e⟩
 |rng lo hi=>obtain⟨_,_,_,e⟩:=x;exact⟨_,e⟩
 |frz ob u=>obtain⟨e,_⟩:=x;exact⟨_,e⟩
 |tbl ps=>exact⟨_,(show h.get? a=some _ from x)⟩
 |met f y=>exact⟨_,(show h.get? a=some _ from x)⟩
 |ext φ=>obtain⟨_,e,_⟩:=x;exact e
theorem HOk.stays {H:Hp}{h h2 B:Heap}(x:HOk P w H h)(t:∀b o,H b=some o->∃ob,B.get? b=some ob)(h1:B.StaysIn h)(h2':B.StaysIn h2):HOk P w H h2:=fun a o e=>
 (x a o e).Io (fun b u hb q=>by
  obtain⟨ob,q'⟩:∃ob,B.get? b=some ob:=by
   rcases hb with rfl|hb
   ·exact t _ _ e
   ·exact t _ _ hb
  have:=h1 b ob q'
  rw[q]at this
  cases this
  exact h2' b _ q') (fun _ q=>q) fun _ _ q=>q
end
structure Fly (P:Program)(w:World)(l:List Env)(H:Hp)(s:Shared)(C ea:Addr)(H':Hp)(B:Heap)(s':Shared):Prop where
 os:s'.os=s.os
 bare:AllBare s'.gens
 un:Un (frs l) [] H H' s.heap s'.heap
 hok:HOk P w H' s'.heap
 fly:∃a0,Heap.FlyingW B l ea (.ref C) a0 s'.heap
 old:∀b o,s.heap.get? b=some o->b∉frs l->∃o',B.get? b=some o'
 trk:∀b o,H' b=some o->∃ob,B.get? b=some ob
def CXR (P:Program)(w:World):CXT:=fun l H s E e s'=>∃(C ea:Addr) (H':Hp) (B:Heap),e=.ref ea/\Fly P w l H s C ea H' B s'/\E (.ref C) none H'
section
variable {X:Cx}{pins:List (Addr×Obj)}{σ:St}{H H':Hp}{s s':Shared}{B h2:Heap}{C ea:Addr}{a0:Value}
theorem Tt (I:Inv X pins σ H' s')(hex:X.ex=[])(st:B.StaysIn s'.heap)(old:∀b o,X.s_0.heap.get? b=some o->b∉frs X.outer->∃o',B.get? b=some o')(trk:∀b o,H' b=some o->∃ob,B.get? b=some ob)
  (hfl:Heap.FlyingW B X.outer ea (.ref C) a0 h2)(up:s'.heap.UpToSlots h2):Fly X.prog X.w X.outer X.H_0 X.s_0 C ea H' B {s' with heap:=h2}:=by
 have u:Un (frs X.outer) [] X.H_0 H' X.s_0.heap s'.heap:=by
  have:=I.base
  rw[hex]at this
  exact this
 have Io:∀b o o1,X.s_0.heap.get? b=some o->b∉frs X.outer->s'.heap.get? b=some o1->h2.get? b=some o1:=fun b o o1 q n r=>by
  obtain⟨o',z⟩:=old b o q n
  have:=st b o' z
  rw[r]at this
  cases this
  exact hfl.1 b _ z
 have slots:∀b,b∈frs X.outer->∀o1,s'.heap.get? b=some o1->∃sl,h2.get? b=some {o1 with slots:=sl}:=fun b hb o1 r=>by
  obtain⟨_,o,ho,nf⟩:=I.JJ.mem hb
  rw[r]at ho
  cases ho
  exact up b o1 r nf
 refine⟨I.os,I.bare,⟨fun b o q n hb hx=>Io b o o q hb (u.keep b o q n hb hx),fun b o q n hb hx=>?_,u.free,fun b o q hx=>?_,u.Oo,u.Mg,u.Oq⟩,I.hok.stays trk st hfl.1,⟨a0,hfl⟩,old,trk⟩
 ·obtain⟨sl,r⟩:=u.slot b o q n hb hx
  obtain⟨sl2,r2⟩:=slots b hb _ r
  exact⟨sl2,r2⟩
 ·obtain⟨o',r⟩:=u.there b o q hx
  by_cases hb:b∈frs X.outer
  ·obtain⟨sl,r2⟩:=slots b hb _ r
   exact⟨_,r2⟩
  ·exact⟨o',Io b o o' q hb r⟩
theorem Inv.Lm (I:Inv X pins σ H s)(q:X.s_0.heap.get? b=some o)(n:b∉frs X.outer):b∉frs X.stack:=fun hb=>by
 rcases List.mem_cons.mp (I.Ot b hb)with e|hb
 ·rw[e]at q
  exact absurd (Heap.lt_size q) (Nat.not_lt.mpr I.ok.above)
 ·exact n hb
end
def Raises (X:Cx)(E:XK):Prop:=∀(pins:List (Addr×Obj)) (σ:St) (H:Hp) (s:Shared) (h':Heap) (ea C:Addr),Inv X pins σ H s->Heap.MadeExcOf s.heap h' ea (.ref C) []->E (.ref C) none H->X.xe (.ref ea) {s with heap:=h'}
section
variable {P:Program}{w:World}{K:PySem.W.Frag}{mg:Str->Option Value}{base:Heap}{N:List Str}{qual:Str}{scope:Scope}{f:Addr}{cdv:Value}{A:Around}{outer:List Env}{s:Shared}{H:Hp}{E E':XK}
theorem CY:Raises (Fp (CXR P w) P w K mg base N qual scope f cdv A outer s H E) E:=by
 intro pins σ H1 s1 h' ea C I hm he
 have hst:(Fp (CXR P w) P w K mg base N qual scope f cdv A outer s H E).stack=envOfC qual scope s.heap.objs.size f cdv::outer:=rfl
 refine wpAny_leaves_madeW (base:=PySem.W.hideAll s1.heap (frs (envOfC qual scope s.heap.objs.size f cdv::outer))) (h:=s1.heap) (L:=s.heap.objs.size) I.ok.frames rfl (fun b o q=>PySem.W.of_hideAll _ q)
  (PySem.W.funFrames_hide I.stack fun env he a ha=>List.mem_filterMap.mpr ⟨env,he,ha⟩) hm fun h2 t x1 _ _ x4=>?_
 refine⟨C,ea,H1,_,rfl,Tt I rfl (fun b o q=>PySem.W.of_hideAll _ q) (fun b o q n=>?_) (fun b o e=>?_) x1 ((Heap.UpToSlots.of_keeps hm.keeps).trans x4),he⟩
 ·obtain⟨o',r⟩:=I.base.there b o q (by show b∉([]:List Addr);simp)
  exact⟨o',PySem.W.hideAll_get _ r (I.Lm q n)⟩
 ·obtain⟨ob,r⟩:=(I.hok b o e).there
  refine⟨ob,PySem.W.hideAll_get _ r fun hb=>?_⟩
  have:=I.TV b hb
  rw[e]at this
  cases this
theorem C5 (himp:∀c d H,E' c d H->E c d H):Passes (CXR P w) (Fp (CXR P w) P w K mg base N qual scope f cdv A outer s H E) E':=by
 intro pins σ H1 s1 e s2 I h
 obtain⟨C,ea,H2,B,rfl,F,he⟩:=h
 obtain⟨a0,fl⟩:=F.fly
 have I2:=I.VA F.os F.un F.hok F.bare (fun b z=>absurd z (by simp))
 refine wpAny_leaves_onW I.ok.frames rfl fl fun h2 x1 x2=>?_
 refine⟨C,ea,H2,B,rfl,Tt I2 rfl fl.1 (fun b o q n=>?_) F.trk x1 x2,himp _ _ _ he⟩
 obtain⟨o',r⟩:=I.base.there b o q (by show b∉([]:List Addr);simp)
 exact F.old b o' r (I.Lm q n)
theorem VC:PassesOwn (model P w) (Fp (CXR P w) P w K mg base N qual scope f cdv A outer s H E).A (Fp (CXR P w) P w K mg base N qual scope f cdv A outer s H E).env (Fp (CXR P w) P w K mg base N qual scope f cdv A outer s H E).xe:=PassesOwn.leaving
end
theorem Bv:Passes CX0 X E0:=AU
abbrev Fg:List Value:=[.type "Exception",.type "BaseException",.type "object"]
theorem OU {K:PySem.W.Frag}{h:Heap}{C:Addr}{bmB:List Value}{newId:String}(X:K.In h)(q:PySem.W.excIn K C bmB newId=true):∃bm N nm qn bs hdct sn sub ab col dd k0 k1 k2 k3 k5 mN,
  h.get? C=some (excClassObj nm qn C N bs bm hdct sn sub ab col dd k0 k1 k2 k3 k5 newId)/\h.Ns N mN/\mN "__init__"=none/\OwnTail h bmB bm:=by
 unfold PySem.W.excIn at q
 split at q
 ·rename_i dd cd sl ho
  split at q
  ·rename_i C' bm k0 k1 k2 k3 n k5 hm hs
   simp only[Bool.and_eq_true,beq_iff_eq,Bool.not_eq_true']at q
   obtain⟨⟨⟨⟨⟨rfl,rfl⟩,hdel⟩,ht⟩,hok⟩,hni⟩:=q
   obtain⟨nm,bs,mro,ns,qn,hd,sn,sub,ab,col,del⟩:=cd
   dsimp only at hm hdel hok hni
   subst hm hdel
   have hsl:sl=#[k0,k1,k2,k3,some (.builtin n),k5]:=by
    obtain⟨l⟩:=sl
    simp only at hs
    rw[hs]
   subst hsl
   exact⟨bm,ns,nm,qn,bs,hd,sn,sub,ab,col,dd,k0,k1,k2,k3,k5,_,X _ _ ho,.of_isNs (PySem.W.isNs_of_in X hok),PySem.W.nsMap_none_of_in X hok hni,PySem.W.tail_of_in X ht⟩
  ·cases q
 ·cases q
def Wq (C:Addr)(E:XK):TS:=fun _ _ H=>E (.ref C) none H
theorem BW {X:Cx}{E:XK}{x:Str}{C:Addr}{np cpos pos:Pos}(hx:Raises X E)(hc:X.calm=true)(hg:Gl X x)(hm:X.mg x=some (.ref C))(q:PySem.W.excIn X.K C Fg "Exception.__new__"=true)(hd:(x == ("__debug__":Str))=false:=by decide):
  PS X (.Raise (some (.Call (.Name x np) [] [] cpos)) none pos) (Wq C E):=by
 intro pins s σ H D I h
 obtain⟨bm,N,nm,qn,bs,hdct,sn,sub,ab,col,dd,k0,k1,k2,k3,k5,mN,hC,hN,hni,T⟩:=OU I.kIn q
 refine wpAny_Raise_call_subT (C:=C) (nm:=nm) (q:=qn) (N:=N) (bs:=bs) (bm:=bm) (hdct:=hdct) (sn:=sn) (sub:=sub) (ab:=ab) (col:=col) (dd:=dd) (k0:=k0) (k1:=k1) (k2:=k2) (k3:=k3) (k5:=k5)
  PySem.F.excBase_Exception (mN:=mN) (T.hasType PySem.F.excBase_Exception.hasBase) (I.ok.hd hc) rfl hni (GH I hg hm ⟨rfl,?_⟩ hd)
 exact evalArgs_empty ⟨rfl,Nat.zero_le _,hC,hN,T,fun h' e hmade=>hx pins σ H s h' e C I hmade h⟩
abbrev Cx.marked (X:Cx)(e:Value):Cx:={X with A:=X.A.mark (some e),calm:=false,xe:=fun _ _=>False}
theorem Cx.Ok.marked {X:Cx}(ok:X.Ok)(e:Value):(X.marked e).Ok:=
 ⟨ok.mod,ok.kind,ok.glob,ok.blt,ok.above,ok.inj,ok.has,ok.cab,(fun h=>by cases h),ok.frames,ok.stk,ok.exf,ok.bs,ok.bsz,ok.S6,ok.Qm,ok.JJ,ok.frf⟩
abbrev Cx.Om (X:Cx)(pins:List (Addr×Obj))(D:Ends)(hs:List ExceptHandler):Cx:={X with pn:=X.pn++pins,xe:=fun e s'=>wpAny (model X.prog X.w) X.A (noteFrame e X.env) (fun _ s2=>wpAny (model X.prog X.w) X.A (setFlight e none) (fun _ s3=>wpAny (model X.prog X.w) X.A (handleBy e X.env hs) (SP X pins D) X.xe s3) X.xe s2) X.xe s'}
theorem Cx.Ok.Om {X:Cx}(ok:X.Ok)(pins:List (Addr×Obj))(D:Ends)(hs:List ExceptHandler):(X.Om pins D hs).Ok:=
 ⟨ok.mod,ok.kind,ok.glob,ok.blt,ok.above,ok.inj,ok.has,ok.cab,ok.hd,ok.frames,ok.stk,ok.exf,ok.bs,ok.bsz,ok.S6,ok.Qm,ok.JJ,ok.frf⟩
theorem Cx.Ok.E3 {X:Cx}{pins:List (Addr×Obj)}{D:Ends}{hs:List ExceptHandler}(ok:(X.Om pins D hs).Ok):X.Ok:=
 ⟨ok.mod,ok.kind,ok.glob,ok.blt,ok.above,ok.inj,ok.has,ok.cab,ok.hd,ok.frames,ok.stk,ok.exf,ok.bs,ok.bsz,ok.S6,ok.Qm,ok.JJ,ok.frf⟩
section
variable {X:Cx}{pins pins':List (Addr×Obj)}{σ:St}{H H':Hp}{s s':Shared}{D:Ends}{hs:List ExceptHandler}{e:Value}
theorem Inv.marked (I:Inv X pins σ H s)(e:Value):Inv (X.marked e) pins σ H s:=⟨I.ok.marked e,I.os,I.bare,I.base,I.loc,I.cell,I.free,I.Di,I.pin,I.hok,I.len⟩
theorem Inv.unmarked (ok:X.Ok)(I:Inv (X.marked e) pins σ H s):Inv X pins σ H s:=⟨ok,I.os,I.bare,I.base,I.loc,I.cell,I.free,I.Di,I.pin,I.hok,I.len⟩
theorem SP.unmarked (ok:X.Ok)(h:SP (X.marked e) pins D f s'):SP X pins D f s':=by
 cases f with
 |next=>obtain⟨σ',H',I,q⟩:=h;exact⟨σ',H',I.unmarked ok,q⟩
 |brk=>obtain⟨σ',H',I,q⟩:=h;exact⟨σ',H',I.unmarked ok,q⟩
 |cont=>obtain⟨σ',H',I,q⟩:=h;exact⟨σ',H',I.unmarked ok,q⟩
 |ret u=>obtain⟨v,σ',H',I,r,q⟩:=h;exact⟨v,σ',H',I.unmarked ok,r,q⟩
theorem Inv.Om (I:Inv X pins σ H s)(D:Ends)(hs:List ExceptHandler):Inv (X.Om pins D hs) [] σ H s:=
 ⟨I.ok.Om pins D hs,I.os,I.bare,I.base,I.loc,I.cell,I.free,I.Di,fun p hp=>I.pin p (by rw[List.append_nil]at hp;exact hp),I.hok,I.len⟩
theorem Inv.E3 (I:Inv (X.Om pins D hs) pins' σ H s):Inv X pins σ H s:=
 ⟨I.ok.E3,I.os,I.bare,I.base,I.loc,I.cell,I.free,I.Di,fun p hp=>I.pin p (List.mem_append_left _ hp),I.hok,I.len⟩
theorem SP.E3 (h:SP (X.Om pins D hs) [] D' f s'):SP X pins D' f s':=by
 cases f with
 |next=>obtain⟨σ',H',I,q⟩:=h;exact⟨σ',H',I.E3,q⟩
 |brk=>obtain⟨σ',H',I,q⟩:=h;exact⟨σ',H',I.E3,q⟩
 |cont=>obtain⟨σ',H',I,q⟩:=h;exact⟨σ',H',I.E3,q⟩
 |ret u=>obtain⟨v,σ',H',I,r,q⟩:=h;exact⟨v,σ',H',I.E3,r,q⟩
theorem Inv.X3 (hnc:∀x,X.env.cells.lookup x=none)(hex:X.ex=[])(I:Inv X pins σ H s)(F:Fly X.prog X.w X.stack H s C ea H' B s')(st:B.StaysIn h5)(up:s'.heap.UpToSlots h5):
  Inv X pins σ H' {s' with heap:=h5}:=by
 obtain⟨a0,fl⟩:=F.fly
 have I2:=I.VA F.os F.un F.hok F.bare (fun b z=>absurd z (by simp))
 have Io:∀b o o1,s.heap.get? b=some o->b∉frs X.stack->s'.heap.get? b=some o1->h5.get? b=some o1:=fun b o o1 q n r=>by
  obtain⟨o',z⟩:=F.old b o q n
  have:=fl.1 b o' z
  rw[r]at this
  cases this
  exact st b _ z
 have slots:∀b,b∈frs X.stack->∀o1,s'.heap.get? b=some o1->∃sl,h5.get? b=some {o1 with slots:=sl}:=fun b hb o1 r=>by
  obtain⟨_,o,ho,nf⟩:=fl.2.2.1.mem hb
  rw[r]at ho
  cases ho
  exact up b o1 r nf
 have ine:∀b:Addr,b∉X.ex:=fun b=>by rw[hex];simp
 have u:=I2.base
 refine⟨I2.ok,I2.os,I2.bare,⟨fun b o q n hb hx=>?_,fun b o q n hb hx=>?_,u.free,fun b o q hx=>?_,u.Oo,u.Mg,u.Oq⟩,?_,fun x c e=>?_,I2.free,I2.Di,fun p hp=>?_,F.hok.stays F.trk fl.1 st,I2.len⟩
 ·exact Io b _ o (I.base.keep b o q n hb hx) (I.Lm q hb) (u.keep b o q n hb hx)
 ·obtain⟨sl,r⟩:=u.slot b o q n hb hx
  have hb':b∈frs X.stack:=by
   rcases I.ok.stk with z|⟨z,hf⟩
   ·rw[z];exact hb
   ·rw[z]
    unfold frs
    rw[List.filterMap_cons,hf]
    exact List.mem_cons_of_mem _ hb
  obtain⟨sl2,r2⟩:=slots b hb' _ r
  exact⟨sl2,r2⟩
 ·obtain⟨o',r⟩:=u.there b o q hx
  by_cases hb:b∈frs X.stack
  ·obtain⟨sl,r2⟩:=slots b hb _ r
   exact⟨_,r2⟩
  ·obtain⟨o0,r0⟩:=I.base.there b o q hx
   exact⟨o',Io b o0 o' r0 hb r⟩
 ·obtain⟨m,hn,hl⟩:=I2.loc
  refine⟨m,up.ns hn,fun i x v h1 h2 h3=>?_⟩
  obtain⟨u,r,q⟩:=hl i x v h1 h2 h3
  refine⟨u,r,?_⟩
  rcases q with q|⟨k,c,e,z⟩
  ·exact .inl q
  ·rw[hnc]at e;cases e
 ·rw[hnc]at e;cases e
 ·obtain⟨e,n,ne,nf,d⟩:=I2.pin p hp
  obtain⟨e0,_,_,_,_⟩:=I.pin p hp
  refine⟨Io p.1 p.2 p.2 e0 (fun hb=>?_) e,n,ne,nf,d⟩
  rcases List.mem_cons.mp (I.Ot p.1 hb)with z|z
  ·exact ne z
  ·exact nf z
end
theorem iL {K:PySem.W.Frag}{h:Heap}{C N:Addr}{v:Value}{r:Bool}{nm q:Str}{bs bm:List Value}{hdct:Bool}{sn:List Str}{sub:List Value}{ab:Bool}{col:Option Bool}{dd:Option Addr}{k0 k1 k2 k3 k5:Option Value}{newId:String}
  (X:K.In h)(e:PySem.W.mroIn K C v=some r)(hC:h.get? C=some (excClassObj nm q C N bs bm hdct sn sub ab col dd k0 k1 k2 k3 k5 newId)):(Value.ref C::bm).contains v=r:=by
 unfold PySem.W.mroIn at e
 obtain⟨cd,a,b⟩:=Option.bind_eq_some_iff.mp e
 unfold PySem.W.clsIn at a
 split at a
 ·rename_i ho
  cases a
  have:=X _ _ ho
  rw[hC]at this
  cases this
  split at b
  ·cases b
  ·exact Option.some.inj b
 ·cases a
section
variable {M:Model}{A:Around}{E:Value->Shared->Prop}{s:Shared}
theorem Mh {K:PySem.W.Frag}{C C2 e:Addr}{oe:Obj}{Q:Bool->Shared->Prop}(X:K.In s.heap)(q1:PySem.W.excIn K C Fg "Exception.__new__"=true)(q2:PySem.W.excIn K C2 Fg "Exception.__new__"=true)
  (hne:PySem.W.mroIn K C (.ref C2)=some false)(he:s.heap.get? e=some oe)(hcls:oe.cls=.ref C)(h:Q false s):wpAny M A (excMatches (.ref e) (.ref C2)) Q E s:=by
 obtain⟨bm,N,nm,qn,bs,hdct,sn,sub,ab,col,dd,k0,k1,k2,k3,k5,mN,hC,hN,hni,T⟩:=OU X q1
 obtain⟨bm2,N2,nm2,qn2,bs2,hdct2,sn2,sub2,ab2,col2,dd2,l0,l1,l2,l3,l5,mN2,hC2,hN2,hni2,T2⟩:=OU X q2
 have hcB:(Value.ref C2::bm2).contains (.type "BaseException")=true:=by rw[List.contains_cons,T2.hasType (X:="BaseException") (b:=true) rfl,Bool.or_true]
 have hcC:(Value.ref C::bm).contains (.ref C2)=false:=iL X hne hC
 have f:=tc_notTuple
 obtain⟨hp,g,d,tk,os⟩:=s
 unfold excMatches
 repeat (first|(with_reducible refine wpAny_loadPart_at he ?_;rw[hcls])|with_reducible refine wpAny_loadPart_at hC2 ?_|(with_reducible refine wpAny_isSubtype_exc hC2 ?_;rw[hcB])|(with_reducible refine wpAny_isSubtype_exc hC ?_;rw[hcC])|wp_step)
 exact h
end
inductive HD (X:Cx)(D:Ends)(C:Addr)(H:Hp):List ExceptHandler->Prop where
 |skip {x:Str}{np pos:Pos}{suite:List Stmt}{rest:List ExceptHandler}{C2:Addr}(hg:Gl X x) (hm:X.mg x=some (.ref C2)) (q1:PySem.W.excIn X.K C Fg "Exception.__new__"=true) (q2:PySem.W.excIn X.K C2 Fg "Exception.__new__"=true)
   (hne:PySem.W.mroIn X.K C (.ref C2)=some false) (hd:(x == ("__debug__":Str))=false) (r:HD X D C H rest):HD X D C H (.ExceptHandler (some (.Name x np)) none suite pos::rest)
 |take {x:Str}{np pos:Pos}{b0:Stmt}{suite:List Stmt}{rest:List ExceptHandler}{th:TS}(hg:Gl X x) (hm:X.mg x=some (.ref C)) (q1:PySem.W.excIn X.K C Fg "Exception.__new__"=true)
   (hd:(x == ("__debug__":Str))=false) (hs:∀e,PSs (X.marked e) (b0::suite) th) (hr:∀σ,th D σ H):HD X D C H (.ExceptHandler (some (.Name x np)) none (b0::suite) pos::rest)
section
variable {X:Cx}{D:Ends}{C ea:Addr}{H:Hp}
theorem iM (h:HD X D C H hs):∀{pins:List (Addr×Obj)}{σ:St}{H0:Hp}{s0 s':Shared}{B h5:Heap}{a0:Value},(∀x,X.env.cells.lookup x=none)->X.ex=[]->Inv X pins σ H0 s0->Fly X.prog X.w X.stack H0 s0 C ea H B s'->
  Heap.FlyingW B X.stack ea (.ref C) a0 h5->s'.heap.UpToSlots h5->wpAny (model X.prog X.w) X.A (handleBy (.ref ea) X.env hs) (SP X pins D) X.xe {s' with heap:=h5}:=by
 induction h with
 |@skip x np pos suite rest C2 hg hm q1 q2 hne hd r ih=>
  intro pins σ H0 s0 s' B h5 a0 hnc hex I F fl up
  have J:=I.X3 hnc hex F fl.1 up
  obtain⟨ob,hob,hobc⟩:=fl.there
  refine wpAny_handleBy_cons (codeAny_handlers_test (GH (X:=X.marked (.ref ea)) (J.marked (.ref ea)) hg hm ?_ hd)) (by intro q;cases q)
  exact Mh J.kIn q1 q2 hne hob hobc (ih hnc hex I F fl up)
 |@take x np pos b0 suite rest th hg hm q1 hd hsu hr=>
  intro pins σ H0 s0 s' B h5 a0 hnc hex I F fl up
  have J:=I.X3 hnc hex F fl.1 up
  obtain⟨ob,hob,hobc⟩:=fl.there
  refine wpAny_handleBy_cons (codeAny_handlers_test (GH (X:=X.marked (.ref ea)) (J.marked (.ref ea)) hg hm ?_ hd)) (by intro q;cases q)
  obtain⟨bm,N,nm,qn,bs,hdct,sn,sub,ab,col,dd,k0,k1,k2,k3,k5,mN,hC,hN,hni,T⟩:=OU J.kIn q1
  refine wpAny_excMatches_sub_self hC hob hobc (T.hasType (X:="BaseException") (b:=true) rfl) (codeAny_handlers_suite ?_)
  refine lands_againW fl fun h6 fl6 up6=>?_
  have J6:=I.X3 hnc hex F fl6.1 (up.trans up6)
  refine wpAny_mono (hsu (.ref ea) pins {s' with heap:=h6} σ H D (J6.marked (.ref ea)) (hr σ)) (fun f s7 q=>q.unmarked J6.ok) fun _ _ z=>False.elim z
theorem jw (hnc:∀x,X.env.cells.lookup x=none)(hex:X.ex=[])(hstk:X.stack=X.env::X.outer)(hf:X.env.frame=some X.env.locals)
  (hh:∀c d H,ET c d H->∃C,c=.ref C/\HD X D C H hs):Passes (CXR X.prog X.w) (X.Om pins D hs) ET:=by
 intro pins' σ H1 s1 e s2 I h
 obtain⟨C,ea,H2,B,rfl,F,he⟩:=h
 obtain⟨C',e',hd⟩:=hh _ _ _ he
 cases e'
 obtain⟨a0,fl⟩:=F.fly
 have I0:Inv X pins σ H1 s1:=I.E3
 have fl':Heap.FlyingW B (X.env::X.outer) ea (.ref C) a0 s2.heap:=by rw[<-hstk];exact fl
 have fr:X.A.frames=some (X.env::X.outer):=by rw[<-hstk];exact I0.ok.frames
 refine wpAny_looks_onW fr hf fl' fun h4 x1 x2=>?_
 refine wpAny_landsW x1 fun h5 x3 x4=>?_
 exact iM (s':=s2) (h5:=h5) hd hnc hex I0 F (by rw[hstk];exact x3) (x2.trans x4)
end
def mW (D0:Ends)(t:TS):TS:=fun D σ H=>D=D0/\t D0 σ H
theorem iN (hb:∀pins,PSs (X.Om pins D0 (h0::hs)) body t):PS X (.Try body (h0::hs) [] [] pos) (mW D0 t):=by
 intro pins s σ H D I h
 obtain⟨rfl,h⟩:=h
 refine wpAny_Try_except (wpAny_mono (hb pins [] s σ H D (I.Om D (h0::hs)) h) (fun f s1 q=>?_) fun e s1 q=>q)
 cases f with
 |next=>exact wpAny_execs_nil q.E3
 |brk=>exact q.E3
 |cont=>exact q.E3
 |ret u=>exact q.E3
section
variable {X:Cx}{e:Expr}{st:Stmt}{t t':TE}{u u':TS}
theorem PE.or (h:PE X e t)(h':PE X e t'):PE X e (fun σ H Q=>t σ H Q\/t' σ H Q):=fun pins s σ H Q I w=>w.elim (fun z=>h pins s σ H Q I z) fun z=>h' pins s σ H Q I z
end
theorem bits_le (h:k.natAbs<2 ^ n):Builtin.Int.intBits k<=n:=by
 unfold Builtin.Int.intBits
 split
 ·exact Nat.zero_le _
 ·rename_i hk
  have hk0:k≠0:=by simpa using hk
  have hp:k.natAbs≠0:=fun z=>hk0 (Int.natAbs_eq_zero.mp z)
  have:=(Nat.log2_lt hp).mpr h
  omega
theorem XY (h:m+n<=9000)(h1:i.natAbs<2 ^ m)(h2:j.natAbs<2 ^ n):IntMulOk i j:=by
 have ha:=bits_le h1
 have hb:=bits_le h2
 have z:Builtin.Int.intTooBig (Builtin.Int.intBits i+Builtin.Int.intBits j)=false:=by
  unfold Builtin.Int.intTooBig bitsLine
  exact decide_eq_false (by omega)
 unfold IntMulOk
 rw[z,Bool.and_false]
 exact Bool.false_ne_true
def CW (i j:Int):Prop:=∃m n:Nat,m+n<=9000/\i.natAbs<2 ^ m/\j.natAbs<2 ^ n
def CD (_ j:Int):Prop:=0<j/\∃n:Nat,n<=9000/\j.natAbs<2 ^ n
section
variable {X:Cx}
theorem BK:OpR X (binaryOp .Mult) (rI CW fun i j=>.int (i*j)):=opI fun i j _ _ _ _ _ hc q=>by
 obtain⟨m,n,h,h1,h2⟩:=hc
 exact mul_int q (XY h h1 h2)
theorem L5:OpR X (binaryOp .FloorDiv) (rI CD fun i j=>.int (i / j)):=opI fun i j _ _ _ _ _ hc q=>by
 obtain⟨h1,n,hn,h2⟩:=hc
 have h1:(0:Int)<j:=h1
 have hp:j.natAbs≠0:=fun z=>by have:=Int.natAbs_eq_zero.mp z;omega
 have hl:j.natAbs.log2<9000:=Nat.lt_of_lt_of_le ((Nat.log2_lt hp).mpr h2) hn
 exact floordiv_int (by omega) (by rw[Int.fdiv_eq_ediv_of_nonneg i (by omega)];exact q) (.inl (PyProof.noPylong_of_log2 hl))
end
section
variable {prog:Program}{w:World}{A:Around}{E:Value->Shared->Prop}{s:Shared}{l:Addr}{its:List Value}{ns:List Int}{Q:Value->Shared->Prop}
theorem az (hh:A.handled=none)(hl:IsTup s.heap l its.toArray)(hi:IntsAre its ns)
  (h:∀h' tk t',(∀b o,s.heap.get? b=some o->h'.get? b=some o)->Q (.int ns.sum t') {s with heap:=h',toks:=tk}):wpAny (model prog w) A (call (.builtin "sum") [.ref l]) Q E s:=by
 obtain⟨xs,e⟩:=hi.allInts.items
 have hn:numsOf (intItems xs).toList=ns:=by rw[<-e];exact hi.numsOf
 rw[nums_intItems]at hn
 rw[e]at hl
 have hlt:l<s.heap.objs.size:=hl.lt
 have ht:s.heap.IsTuple l (intItems xs):=hl
 refine call_sum_walkG (wpAny_pyIter_tuple ht ?_)
 refine⟨s.heap.objs.size,_,_,_,_,_,numAt xs,rfl,Walks.tuple (A:=A.in1) hh _ l (Nat.ne_of_lt hlt) (intItems xs),⟨⟨_,Heap.get?_push_size _ rfl,rfl,rfl⟩,ht.push _⟩,fun b hb=>?_,(fun _ _=>intItems_at),fun h' tk t' hk=>?_⟩
 ·have hb':b=s.heap.objs.size\/b=l:=by simpa using hb
  show b<(s.heap.push _).objs.size
  rw[Heap.size_push]
  rcases hb' with z|z
  ·rw[z];exact Nat.lt_succ_self _
  ·rw[z];exact Nat.lt_succ_of_lt hlt
 ·have q:=h h' tk t' fun b o z=>hk b o (fun hm=>by
   have hm':b=s.heap.objs.size:=by simpa using hm
   have:=Heap.lt_size z
   rw[hm']at this
   exact Nat.lt_irrefl _ this) (Heap.get?_push_of_some _ z)
  rw[preSum_eq,List.take_of_length_le (by simp[intItems]),hn]
  exact q
theorem Vx {Q:List Value->Shared->Prop}(hl:IsTup s.heap l its.toArray)
  (h:Q its {s with heap:=(s.heap.push (seqObj "list" #[] 0)).update s.heap.objs.size (Obj.mapSeq (·++its.toArray))})(hsz:its.length<=sizeLine):
  wpAny (model prog w) A (collect (.ref l)) Q E s:=by
 obtain⟨o,ho,hc,n,hd⟩:=id hl
 have hlt:l<s.heap.objs.size:=hl.lt
 unfold collect
 refine wpAny_bind (wpAny_runValue (codeAny_builtin entry_proto_collect' ?_))
 show wpAny _ _ (do again (.builtin "list.__iadd__" ⟨[<-newList [],.ref l],[]⟩)) _ _ s
 refine wpAny_bind (wpAny_newList (wpAny_pure ⟨Code.quiet_builtin _ (by decide +kernel),codeAny_builtin entry_list_iadd' ?_⟩))
 show wpAny _ _ (Builtin.List.listExtendWith (.ref s.heap.objs.size) (.ref l) (.ref s.heap.objs.size)) _ _ {s with heap:=s.heap.push (seqObj "list" #[] 0)}
 unfold Builtin.List.listExtendWith
 have ho2:(s.heap.push (seqObj "list" #[] 0)).get? l=some o:=Heap.get?_push_of_some _ ho
 refine wpAny_bind (wpAny_typeOf (T:="tuple") ⟨o,ho2,hc⟩ ?_)
 have ht:(Value.type "tuple" == Value.type "tuple")=true:=by rfl
 rw[if_pos (by rw[ht];simp)]
 refine wpAny_bind (listItems_at ho2 hd ?_)
 refine wpAny_bind (listItems_at (xs:=#[]) (n:=0) (Heap.get?_push_size _ rfl) rfl ?_)
 rw[if_neg (by simp)]
 refine wpAny_bind (listUpdate_at (xs:=#[]) (n:=0) (Heap.get?_push_size _ rfl) rfl ?_ (Nat.zero_le _) (by show(#[]++its.toArray).size<=sizeLine+1;simp only[Array.size_append,List.size_toArray,List.length_nil];omega))
 refine wpAny_pure ?_
 show wpAny (model prog w) A (do
   let o <-load s.heap.objs.size
   match o.data with
   | .seq xs _=>pure xs.toList
   |_=>unsupported "internal:collect") Q E {s with heap:=(s.heap.push (seqObj "list" #[] 0)).update s.heap.objs.size (Obj.mapSeq (·++its.toArray))}
 refine wpAny_bind (wpAny_load (get?_update_seq (Heap.get?_push_size _ rfl) _) ?_)
 show wpAny _ _ (pure ((#[]:Array Value)++its.toArray).toList) Q E _
 rw[show((#[]:Array Value)++its.toArray).toList=its by simp]
 exact wpAny_pure h
theorem XZ (hl:IsTup s.heap l its.toArray)(hI:IntsAre its ns)(h64:its.length<64)
  (h:∀(out:Array Value) (ns':List Int),IntsAre out.toList ns'->ns'.Perm ns->ns'.Pairwise (·<=·)->Q (.ref (s.heap.objs.size+1)) {s with heap:=sortedAll s.heap its out}):
  wpAny (model prog w) A (call (.builtin "sorted") [.ref l]) Q E s:=by
 refine Calls.call_function_entry kind_sorted plain_sorted entry_sorted (args_sorted1 _) ?_
 unfold Builtin.«sorted»
 refine wpAny_bind (m:=checkCount "sorted" 1 1 _) (wpAny_pure ?_)
 refine wpAny_bind (Vx hl ?_ (by rw[sizeLine_eq];omega))
 refine wpAny_bind (wpAny_newList ?_)
 have hsz:((s.heap.push (seqObj "list" #[] 0)).update s.heap.objs.size (Obj.mapSeq (·++its.toArray))).objs.size=s.heap.objs.size+1:=by
  rw[Heap.size_update,size_push']
 have hoL:(((s.heap.push (seqObj "list" #[] 0)).update s.heap.objs.size (Obj.mapSeq (·++its.toArray))).push (seqObj "list" its.toArray 0)).get? (s.heap.objs.size+1)=some (seqObj "list" its.toArray 0):=by
  rw[<-hsz];exact Heap.get?_push_size _ rfl
 show wpAny _ _ _ _ _ {s with heap:=((s.heap.push (seqObj "list" #[] 0)).update s.heap.objs.size (Obj.mapSeq (·++its.toArray))).push (seqObj "list" its.toArray 0)}
 rw[hsz]
 refine wpAny_bind (wpAny_holding (wpAny_call_entry slot_list_sort ⟨_,hoL,rfl⟩ entry_list_sort (list_sort_tree hoL hI h64 fun out ns' a1 a2 a3=>⟨_,rfl,?_⟩) (args_list_sort _)))
 exact wpAny_pure ⟨_,rfl,h out ns' a1 a2 a3⟩
end
section
variable {X:Cx}
def lD (K:PySem.W.Frag):List V->Hp->VK->Prop:=fun vs H Q=>∃(a:Addr) (ns:List Int),vs=[V.ref a]/\SqT K H a (ns.map V.int)/\Q (.int ns.sum) H
theorem d9 (hc:X.calm=true):Fm X (.builtin "sum") (lD X.K):=by
 intro pins s σ H vs us Q I r h
 obtain⟨a,ns,rfl,hs,q⟩:=h
 obtain⟨its,rv,hl,_⟩:=I.tuple hs
 rw[Vals.ZG r]
 exact az (I.ok.hd hc) hl rv.ints fun h' tk t' hk=>⟨.int _,H,I.kept hk,⟨_,rfl⟩,q⟩
def a9 (K:PySem.W.Frag):List V->Hp->VK->Prop:=fun vs H Q=>∃(a:Addr) (ns:List Int),vs=[V.ref a]/\SqT K H a (ns.map V.int)/\ns.length<64/\
 ∀(ns':List Int) (p:Addr),ns'.Perm ns->ns'.Pairwise (·<=·)->H p=none->Q (.ref p) (upd H p (.lst (ns'.map V.int)))
theorem Xa:Fm X (.builtin "sorted") (a9 X.K):=by
 intro pins s σ H vs us Q I r h
 obtain⟨a,ns,rfl,hs,h64,q⟩:=h
 obtain⟨its,rv,hl,_⟩:=I.tuple hs
 rw[Vals.ZG r]
 have hi:=rv.ints
 refine XZ hl hi (by rw[hi.length];exact h64) fun out ns' h1 h2 h3=>?_
 obtain⟨ep,he'⟩:=PyProof.Rows.sortedAll_at s.heap its out
 have hlen:(ns'.map V.int).length<=sizeLine:=by rw[List.length_map,h2.length_eq];exact YI h64
 exact⟨.ref _,upd H (s.heap.objs.size+1) (.lst (ns'.map V.int)),I.laid (t':=s.toks) (fun _ _=>PyProof.Rows.sortedAll_old) (Nat.le_succ _) ⟨hlen,out.toList,ep,Hy h1,he'⟩,rfl,q ns' _ h2 h3 (I.hok.fresh (Nat.le_succ _))⟩
def lE (K:PySem.W.Frag):R2:=fun x y H Q=>∃a b ys,x=.ref a/\y=.ref b/\SqT K H a []/\SqT K H b ys/\Q (.ref b) H
theorem eA:OpR X (binaryOp .Add) (lE X.K):=by
 intro pins s σ H x y v u Q I rx ry h
 obtain⟨a,b,ys,rfl,rfl,ha,hb,q⟩:=h
 cases rx
 cases ry
 obtain⟨its,r1,p1,_⟩:=I.tuple ha
 obtain⟨its2,r2,p2,_⟩:=I.tuple hb
 cases r1
 obtain⟨⟨cls,dd,data,sl⟩,ho,hc,n,hd⟩:=id p1
 obtain⟨⟨cls2,dd2,data2,sl2⟩,ho2,hc2,n2,hd2⟩:=id p2
 simp only at hc hd hc2 hd2
 subst hc hd hc2 hd2
 exact concat_meets ⟨_,ho,rfl⟩ ⟨_,ho2,rfl⟩ noFill_tuple_add seq_tuple_add PySem.F.slot_tuple_add PySem.F.entry_tuple_add (PySem.F.args_tuple_add_2 _ _)
  (tuple_addW0 a b [].toArray its2.toArray n n2 dd dd2 sl sl2 (by simp)) ⟨ho,ho2,⟨.ref b,H,I,rfl,q⟩⟩
end
structure Fn (P:Program)(w:World)(K:PySem.W.Frag)(mg:Str->Option Value)(base:Heap)(CX:CXT)(k:Nat)(f:Addr)(ps:List Str)(sp:Sp):Prop where
 ok:∃fd,Ls P w K mg base CX k f fd ps sp/\Binds K fd ps []
 kp:PySem.W.keepIn K (.ref f)=true
section
variable {X:Cx}{CX:CXT}{k j:Nat}{f C:Addr}{ps:List Str}{sp:Sp}{E:XK}{x m:Str}{p pos apos:Pos}{e o:Expr}{es:List Expr}{te ta:TE}{t:TA}
def tFn (sp:Sp)(E:XK)(t:TA):TE:=fun σ H Q=>t σ H fun vs H1=>sp vs H1 Q E
def tMt (C:Addr)(m:Str)(sp:Sp)(E:XK)(ta:TE)(t:TA):TE:=fun σ H Q=>ta σ H fun x H1=>∃a dx fs,x=.ref a/\H1 a=some (.ins C dx fs)/\fs.lookup m=none/\t σ H1 fun vs H2=>sp (x::vs) H2 Q E
def tMk (C:Addr)(sp:Sp)(E:XK)(t:TA):TE:=fun σ H Q=>t σ H fun vs H1=>∀x dx,H1 x=none->H1 dx=none->dx≠x->sp (.ref x::vs) (upd (upd H1 dx (.own x)) x (.ins C dx [])) (fun v H2=>v=.non/\Q (.ref x) H2) E
theorem Ac (G:Fn X.prog X.w X.K X.mg X.base CX k f ps sp)(hr:C1 j X.A)(hg:Gl X x)(hm:X.mg x=some (.ref f))(hx:Passes CX X E)(ha:PA X (e::es) t)(hk:k<=j:=by decide)(hdb:(x == ("__debug__":Str))=false:=by decide)
  (he:starEach (e::es) X.env=(false,eval e X.env)::starEach es X.env:=by rfl)(hpl:(backTo pos (starEach es X.env)).any (·.1)=false:=by rfl):PE X (.Call (.Name x p) (e::es) [] pos) (tFn sp E t):=by
 obtain⟨⟨fd,F,hb⟩,kp⟩:=G
 intro pins s σ H Q I h
 refine wpAny_Call_Name_kw (GH I hg hm ?_ hdb)
 refine PySem.W.callWith_K (h₀:=X.base) I.ok.mod.kin kp (thn (ha pos pins s σ H _ I h) fun us s1 ⟨vs,H1,I1,r,q⟩=>⟨I1.kIn,?_⟩) he hpl
 have:=Ti (us:=us) (vs:=vs) F (hr.mono hk) hb .nil hx I1 r (by rw[List.append_nil];exact q)
 simpa using this
theorem B4 (he:PE X o ta)(c:Cls X.K C)(hm:Meth X.K C m f)(G:Fn X.prog X.w X.K X.mg X.base CX k f ps sp)(hr:C1 j X.A)(hx:Passes CX X E)(ha:PA X (e::es) t)(hk:k<=j:=by decide)
  (ht:eval (.Call (.Attribute o m apos) (e::es) [] pos) X.env=(do
   let ov <-eval o X.env
   standAt apos.atName
   let(f,first) <-holding [ov] (getMethod ov m pl)
   callWith pos f first (backTo pos (starEach (e::es) X.env)) (backToKw pos (keywordEach [] X.env))):=by rfl)
  (hs:starEach (e::es) X.env=(false,eval e X.env)::starEach es X.env:=by rfl)(hpl:(backTo pos (starEach es X.env)).any (·.1)=false:=by rfl):PE X (.Call (.Attribute o m apos) (e::es) [] pos) (tMt C m sp E ta t):=by
 obtain⟨⟨fd,F,hb⟩,kp⟩:=G
 have h:=dM (pl:=pl) he c hm F (hr.mono hk) hb .nil hx ha hs hpl ht
 intro pins s σ H Q I w
 refine h pins s σ H Q I ?_
 show ta σ H _
 have e1:(fun(x:V) (H1:Hp)=>∃a dx fs,x=.ref a/\H1 a=some (.ins C dx fs)/\fs.lookup m=none/\t σ H1 fun vs H2=>sp (x::(vs++[])) H2 Q E)=fun x H1=>∃a dx fs,x=.ref a/\H1 a=some (.ins C dx fs)/\fs.lookup m=none/\t σ H1 fun vs H2=>sp (x::vs) H2 Q E:=by
  simp only[List.append_nil]
 exact e1▸w
theorem Ck (he:PE X o ta)(c:Cls X.K C)(hm:Meth X.K C m f)(G:Fn X.prog X.w X.K X.mg X.base CX k f ps sp)(hr:C1 j X.A)(hx:Passes CX X E)(hk:k<=j:=by decide)
  (ht:eval (.Call (.Attribute o m apos) [] [] pos) X.env=(do
   let ov <-eval o X.env
   standAt apos.atName
   let(f,first) <-holding [ov] (getMethod ov m pl)
   callWith pos f first (backTo pos (starEach [] X.env)) (backToKw pos (keywordEach [] X.env))):=by rfl):PE X (.Call (.Attribute o m apos) [] [] pos) (tMt C m sp E ta DT):=by
 obtain⟨⟨fd,F,hb⟩,kp⟩:=G
 have h:=aX (pl:=pl) he c hm F (hr.mono hk) hb .nil hx ht
 intro pins s σ H Q I w
 refine h pins s σ H Q I ?_
 show ta σ H _
 have e1:(fun(x:V) (H1:Hp)=>∃a dx fs,x=.ref a/\H1 a=some (.ins C dx fs)/\fs.lookup m=none/\DT σ H1 fun vs H2=>sp (x::(vs++[])) H2 Q E)=fun x H1=>∃a dx fs,x=.ref a/\H1 a=some (.ins C dx fs)/\fs.lookup m=none/\DT σ H1 fun vs H2=>sp (x::vs) H2 Q E:=by
  simp only[List.append_nil]
 exact e1▸w
theorem Dv (M:Mk X.K C f)(G:Fn X.prog X.w X.K X.mg X.base CX k f ps sp)(hr:C1 j X.A)(hg:Gl X x)(hm:X.mg x=some (.ref C))(hx:Passes CX X E)(ha:PA X (e::es) t)(hk:k+1<=j:=by decide)(hdb:(x == ("__debug__":Str))=false:=by decide)
  (he:starEach (e::es) X.env=(false,eval e X.env)::starEach es X.env:=by rfl)(hpl:(backTo pos (starEach es X.env)).any (·.1)=false:=by rfl):PE X (.Call (.Name x p) (e::es) [] pos) (tMk C sp E t):=by
 obtain⟨⟨fd,F,hb⟩,kp⟩:=G
 have h:=dN (p:=p) M F (hr.mono hk) hg hm hb .nil hx ha hdb he hpl
 intro pins s σ H Q I w
 refine h pins s σ H Q I ?_
 show t σ H _
 have e1:(fun(vs:List V) (H1:Hp)=>∀x dx,H1 x=none->H1 dx=none->dx≠x->sp (.ref x::(vs++[])) (upd (upd H1 dx (.own x)) x (.ins C dx [])) (fun v H2=>v=.non/\Q (.ref x) H2) E)=fun vs H1=>∀x dx,H1 x=none->H1 dx=none->dx≠x->sp (.ref x::vs) (upd (upd H1 dx (.own x)) x (.ins C dx [])) (fun v H2=>v=.non/\Q (.ref x) H2) E:=by
  simp only[List.append_nil]
 exact e1▸w
theorem jL (M:Mk X.K C f)(G:Fn X.prog X.w X.K X.mg X.base CX k f ps sp)(hr:C1 j X.A)(hg:Gl X x)(hm:X.mg x=some (.ref C))(hx:Passes CX X E)(hk:k+1<=j:=by decide)(hdb:(x == ("__debug__":Str))=false:=by decide):
  PE X (.Call (.Name x p) [] [] pos) (tMk C sp E DT):=by
 obtain⟨⟨fd,F,hb⟩,kp⟩:=G
 exact aY (p:=p) M F (hr.mono hk) hg hm hb .nil hx hdb
end
section
variable {P:Program}{w:World}{K:PySem.W.Frag}{mg:Str->Option Value}{base:Heap}
theorem Fun.fn {x qual:Str}{st:Stmt}{f:Addr}{fd:FuncData}{N ps:List Str}{k:Nat}{sp:Sp}(F:Fun K x qual st f fd)(hb:Binds K fd ps [])(S:AL N ps (AG st))(len:∀vs H Q E,sp vs H Q E->vs.length=ps.length)
  (hbody:∀(cdv:Value) (A:Around) (outer:List Env) (s:Shared) (H:Hp) (vs:List V) (Q:VK) (E:XK),C1 k (A.deeper (envOfC qual (AG st) s.heap.objs.size f cdv))->sp vs H Q E->
   ∃t,PSs (Fp CX0 P w K mg base N qual (AG st) f cdv A outer s H E).nox (Cb st) t/\t {nx:=fun _ H'=>Q .non H',rt:=Q} (start N vs) H):Fn P w K mg base CX0 (k+1) f ps sp:=
 ⟨⟨fd,F.ok S len hbody,hb⟩,F.kp⟩
theorem Fun.fnR {x qual:Str}{st:Stmt}{f:Addr}{fd:FuncData}{N ps:List Str}{k:Nat}{sp:Sp}(F:Fun K x qual st f fd)(hb:Binds K fd ps [])(S:AL N ps (AG st))(len:∀vs H Q E,sp vs H Q E->vs.length=ps.length)
  (hbody:∀(cdv:Value) (A:Around) (outer:List Env) (s:Shared) (H:Hp) (vs:List V) (Q:VK) (E:XK),C1 k (A.deeper (envOfC qual (AG st) s.heap.objs.size f cdv))->sp vs H Q E->
   ∃t,PSs (Fp (CXR P w) P w K mg base N qual (AG st) f cdv A outer s H E) (Cb st) t/\t {nx:=fun _ H'=>Q .non H',rt:=Q} (start N vs) H):Fn P w K mg base (CXR P w) (k+1) f ps sp:=by
 obtain⟨oc,od,kV,doc,pm,an,cdv,ct,osl,rfl,lk,hcd⟩:=F.ex
 exact⟨⟨_,ff lk hcd S len fun A outer s H vs Q E hr hsp=>hbody cdv A outer s H vs Q E hr hsp,hb⟩,F.kp⟩
end
def Bt (H:Hp)(a C:Addr)(l:List (Str×V)):Prop:=∃dx,H a=some (.ins C dx l)
theorem Bt.same (h:Bt H a C l)(s:AK H H'):Bt H' a C l:=
 let⟨dx,e⟩:=h
 ⟨dx,s _ _ e⟩
def But (x:Addr)(H H':Hp):Prop:=∀b o,b≠x->H b=some o->H' b=some o
theorem But.upd:But x H (upd H x o):=fun b u hb e=>by rw[AI hb];exact e
theorem But.trans (h:But x H H1)(k:But x H1 H2):But x H H2:=fun b o hb e=>k b o hb (h b o hb e)
theorem AK.but (h:AK H H'):But x H H':=fun b o _ e=>h b o e
theorem AK.new (h:H p=none):AK H (upd H p o):=fun b u e=>by rw[AI (AM e h)];exact e
theorem AK.init (nx:H x=none)(nd:H dx=none)(k:But x (upd (upd H dx (.own x)) x (.ins C dx [])) H'):AK H H':=fun b o e=>
 k b o (AM e nx) (by rw[AI (AM e nx),AI (AM e nd)];exact e)
theorem BP:ER f v []=[(f,v)]:=rfl
theorem IE:ER f v ((f,u)::r)=(f,v)::r:=by
 show(if f=f then _ else _)=_
 rw[if_pos rfl]
theorem Ak (h:g≠f):ER f v ((g,u)::r)=(g,u)::ER f v r:=by
 show(if g=f then _ else _)=_
 rw[if_neg h]
def Ip (H:Hp)(xs:List V)(Q:VK):Prop:=∀(p:Addr) (H':Hp),AK H H'->H p=none->H' p=some (.lst xs)->Q (.ref p) H'
theorem Ip.upd (h:Ip H xs Q)(s:AK H H1)(hp:H1 p=none):Q (.ref p) (upd H1 p (.lst xs)):=
 h p _ (s.trans (.new hp)) (s.free hp) AB
def iv (l:List Int):List V:=l.map V.int
def nv (l:List Nat):List V:=(l.map fun n:Nat=>(n:Int)).map V.int
theorem jv (l:List Nat):nv l=iv (l.map fun n:Nat=>(n:Int)):=rfl
theorem Ay (l:List Int):(iv l).length=l.length:=by unfold iv;rw[List.length_map]
theorem Ar (l:List Nat):(nv l).length=l.length:=by unfold nv;rw[List.length_map,List.length_map]
theorem SS {l:List Int}{i:Nat}{x:V}(h:(iv l)[i]? =some x):∃z,l[i]? =some z/\x=.int z:=by
 unfold iv at h
 rw[List.getElem?_map]at h
 cases e:l[i]? with
 |none=>rw[e]at h;cases h
 |some z=>rw[e]at h;exact⟨z,rfl,(Option.some.inj h).symm⟩
theorem NO {l:List Nat}{i:Nat}{x:V}(h:(nv l)[i]? =some x):∃z:Nat,l[i]? =some z/\x=.int z:=by
 unfold nv at h
 rw[List.getElem?_map,List.getElem?_map]at h
 cases e:l[i]? with
 |none=>rw[e]at h;cases h
 |some z=>rw[e]at h;exact⟨z,rfl,(Option.some.inj h).symm⟩
theorem SQ {l:List Int}{i:Nat}{z:Int}(h:l[i]? =some z):(iv l)[i]? =some (.int z):=by
 unfold iv
 rw[List.getElem?_map,h];rfl
theorem NN {l:List Nat}{i:Nat}{z:Nat}(h:l[i]? =some z):(nv l)[i]? =some (.int z):=by
 unfold nv
 rw[List.getElem?_map,List.getElem?_map,h];rfl
theorem Ja:∀l:List Nat,(l.map fun n:Nat=>(n:Int)).sum=((l.sum:Nat):Int)
 |[]=>rfl
 |a::r=>by rw[List.map_cons,List.sum_cons,List.sum_cons,Ja r];omega
def Bd (B n:Nat):Prop:=n<2 ^ B
theorem Bd.mono (h:Bd B n)(k:m<=n):Bd B m:=Nat.lt_of_le_of_lt k h
theorem Bd.more (h:Bd B n)(k:B<=C):Bd C n:=Nat.lt_of_lt_of_le h (Nat.pow_le_pow_right (by decide) k)
theorem Bd.mul (h:Bd B m)(k:Bd C n):Bd (B+C) (m*n):=by
 unfold Bd at*
 rw[Nat.pow_add]
 exact Nat.mul_lt_mul'' h k
theorem Bd.cw (h:Bd B m)(k:Bd C n)(z:B+C<=9000):CW (m:Int) (n:Int):=⟨B,C,z,h,k⟩
theorem Bd.cd (h:Bd B n)(z:B<=9000)(p:0<n):CD i (n:Int):=⟨by omega,B,z,h⟩
theorem CU:bootBuiltins "len"=some (.builtin "len"):=by decide +kernel
theorem My:bootBuiltins "sum"=some (.builtin "sum"):=by decide +kernel
theorem Pa:bootBuiltins "max"=some (.builtin "max"):=by decide +kernel
theorem ay:bootBuiltins "min"=some (.builtin "min"):=by decide +kernel
theorem Sb:bootBuiltins "sorted"=some (.builtin "sorted"):=by decide +kernel
theorem XM:bootBuiltins "ord"=some (.builtin "ord"):=by decide +kernel
theorem jO:bootBuiltins "abs"=some (.builtin "abs"):=by decide +kernel
theorem jE:bootBuiltins "str"=some (.type "str"):=by decide +kernel
theorem eB:bootBuiltins "list"=some (.type "list"):=by decide +kernel
theorem bA:bootBuiltins "tuple"=some (.type "tuple"):=by decide +kernel
section
variable {X:Cx}
inductive gE (K:PySem.W.Frag)(x y:V)(H:Hp)(Q:VK):Prop
 |mk (p:Addr) (xs:List V) (j:Nat) (v:V) (e1:x=.ref p) (e2:y=.int j) (s:SqL K H p xs) (h:xs[j]? =some v) (q:Q v H):gE K x y H Q
def lF (K:PySem.W.Frag):V->V->Hp->VK->Prop:=fun x y H Q=>gE K x y H Q
theorem PN:kC X (lF X.K):=by
 intro pins s σ H x y v u Q I rx ry h
 obtain⟨p,xs,j,z,rfl,rfl,hq,he,q⟩:=h
 cases rx
 obtain⟨t,rfl⟩:=ry
 obtain⟨its,r,pl,hz⟩:=I.list hq
 obtain⟨u,hu,ru⟩:=r.get he
 have hl:=r.length
 have hs:sizeLine=16777216:=sizeLine_eq
 have hj:j<xs.length:=(List.getElem?_eq_some_iff.mp he).1
 exact wpAny_getItem_list pl.isList (by omega) (by omega) (by simpa using hu) ⟨z,H,I,ru,q⟩
end
theorem HX {K:PySem.W.Frag}{a:Addr}{xs:List V}{g:TG}{tb:TS}{D:Ends}{σ:St}{H:Hp}(Pv:Nat->St->Hp->Prop)(h0:Pv 0 σ H)(hl:∀i σ H,i<=xs.length->Pv i σ H->SqL K H a xs)
  (hs:∀i x σ H T,xs[i]? =some x->Pv i σ H->H T=none->g (.ref T) σ (upd H T (.tup [.int (i:Nat),x])) fun σ2 H2=>tb {D with nx:=Pv (i+1),ct:=Pv (i+1),bk:=D.nx} σ2 H2)(hd:∀σ H,Pv xs.length σ H->D.nx σ H):
  ∃W:Nat->Nat->St->Hp->Prop,(∃m,W 0 m σ H)/\∀i m σ H,W i m σ H->
   ((Ite K a).stop i H/\D.nx σ H)\/((Ite K a).go i H/\∃N:St->Hp->Prop,(∀σ' H',N σ' H'->∃m',m'<m/\W (i+1) m' σ' H')/\∀x H',(Ite K a).yld i H x H'->g x σ H' fun σ2 H2=>tb {D with nx:=N,ct:=N,bk:=D.nx} σ2 H2):=by
 refine⟨fun i m σ H=>m=xs.length - i/\i<=xs.length/\Pv i σ H,⟨xs.length,by simp,Nat.zero_le _,h0⟩,?_⟩
 rintro i m σ H ⟨rfl,hi,p⟩
 have q:=hl i σ H hi p
 by_cases hlt:i<xs.length
 ·refine .inr ⟨⟨xs,xs[i],q,by simp[hlt]⟩,Pv (i+1),fun σ' H' p'=>⟨xs.length - (i+1),by omega,rfl,hlt,p'⟩,fun x H' y=>?_⟩
  obtain⟨T,z,e,hT,e',y⟩:=y
  subst e e'
  exact hs i z σ H T (y xs q) p hT
 ·have e:i=xs.length:=by omega
  subst e
  exact .inl ⟨⟨xs,q,Nat.le_refl _⟩,hd σ H p⟩
theorem jF {x:Str}{g:TG}{tt:TT}{te:TE}{vs:List Nat}{σ:St}{H1:Hp}{D:Addr}{Qd:Hp->Prop}(Pv:Nat->Hp->Prop)(h0:Pv 0 (upd H1 D (.lst [])))
  (hs:∀i c H,x.cps[i]? =some c->Pv i H->g (.str ⟨#[c]⟩) (wipe σ vs) H fun σ2 H2=>wipe σ2 vs=wipe σ vs/\tt σ2 H2 fun b H3=>
   if b=true then te σ2 H3 fun y H4=>∃acc,H4 D=some (.lst acc)/\acc.length<sizeLine/\Pv (i+1) (upd H4 D (.lst (acc++[y])))else Pv (i+1) H3)(hd:∀H,Pv x.cps.size H->Qd H):
  ∃W:Nat->Nat->Hp->Prop,(∃m,W 0 m (upd H1 D (.lst [])))/\∀i m H,W i m H->
   ((Its x).stop i H/\Qd H)\/((Its x).go i H/\∃Nx:Hp->Prop,(∀H',Nx H'->∃m',m'<m/\W (i+1) m' H')/\∀y H',(Its x).yld i H y H'->g y (wipe σ vs) H' fun σ2 H2=>wipe σ2 vs=wipe σ vs/\tt σ2 H2 fun b H3=>
    if b=true then te σ2 H3 fun y H4=>∃acc,H4 D=some (.lst acc)/\acc.length<sizeLine/\Nx (upd H4 D (.lst (acc++[y])))else Nx H3):=by
 refine⟨fun i m H=>m=x.cps.size - i/\i<=x.cps.size/\Pv i H,⟨x.cps.size,by simp,Nat.zero_le _,h0⟩,?_⟩
 rintro i m H ⟨rfl,hi,p⟩
 by_cases hlt:i<x.cps.size
 ·refine .inr ⟨hlt,Pv (i+1),fun H' p'=>⟨x.cps.size - (i+1),by omega,rfl,hlt,p'⟩,fun y H' q=>?_⟩
  obtain⟨e,c,hc,ey⟩:=q
  subst e ey
  exact hs i c _ hc p
 ·have e:i=x.cps.size:=by omega
  subst e
  exact .inl ⟨Nat.le_refl _,hd H p⟩
theorem yes {σ:St}{H:Hp}{A B:Hp->Prop}(h:A H):kX σ H fun b H3=>if b=true then A H3 else B H3:=by
 show if true=true then A H else B H
 rw[if_pos rfl]
 exact h
def NH (K:PySem.W.Frag)(a:Addr)(xs:List V):Prop:=∃(o:Obj) (its:Array Value) (n:Nat),K.lookup a=some o/\o.cls=.type "tuple"/\o.data=.seq its n/\its.size<=sizeLine/\Vals xs its.toList
theorem NH.sq {K:PySem.W.Frag}{a:Addr}{xs:List V}{H:Hp}(h:NH K a xs):SqT K H a xs:=.inr h
def tabOf:List DictEntry->Option (List (Int×Value))
 |[]=>some []
 |e::r=>match e.key with
  | .int i _=>if e.hash=hashInt i then(match tabOf r with
   |some l=>some ((i,e.val)::l)
   |none=>none)else none
  |_=>none
def tabAt (l:List (Int×Value))(i:Int):Option Value:=(l.find? fun p=>p.1=i).map (·.2)
structure KTab (K:PySem.W.Frag)(d:Addr)(l:List (Int×Value)):Prop where
 lo:(d == sysModules)=false
 ex:∃o es ep,K.lookup d=some o/\o.ExactDict/\o.data=.dict es ep/\tabOf es.toList=some l
 nd:(l.map (·.1)).Nodup
section
variable {P:Program}{w:World}
theorem Wf:∀{es:List DictEntry}{l:List (Int×Value)},tabOf es=some l->(∀e∈es,∃k,(BQ P w).is k e.key=true/\e.hash=(BQ P w).hash k)/\Pairs (BQ P w) es (l.map fun p=>((Sum.inl p.1:Key),p.2))
 |[],l,h=>by
  cases h
  exact⟨fun e he=>absurd he (by simp),.nil⟩
 |e::r,l,h=>by
  unfold tabOf at h
  split at h
  ·rename_i i t hk
   split at h
   ·rename_i hh
    cases q:tabOf r with
    |none=>rw[q]at h;cases h
    |some l'=>
     rw[q]at h
     cases h
     obtain⟨a,b⟩:=Wf q
     have hi:(BQ P w).is (Sum.inl i) e.key=true:=by rw[hk];exact Rz i t
     refine⟨fun e' he'=>?_,.cons hi rfl b⟩
     rcases List.mem_cons.mp he' with z|z
     ·subst z
      exact⟨Sum.inl i,hi,hh⟩
     ·exact a e' z
   ·cases h
  ·cases h
theorem KTab.dict {K:PySem.W.Frag}{d:Addr}{l:List (Int×Value)}{h:Heap}(T:KTab K d l)(X:K.In h):h.DictOf (BQ P w) d (l.map fun p=>((Sum.inl p.1:Key),p.2)):=by
 obtain⟨o,es,ep,e,x,hd,ht⟩:=T.ex
 obtain⟨a,b⟩:=Wf (P:=P) (w:=w) ht
 refine⟨o,es,ep,X _ _ e,x,hd,fun en he=>a en (by simpa using he),b,?_⟩
 rw[List.map_map]
 have q:=T.nd
 have e2:(l.map ((fun p:Key×Value=>p.1) ∘ fun p:Int×Value=>((Sum.inl p.1:Key),p.2)))=(l.map (·.1)).map fun i=>(Sum.inl i:Key):=by rw[List.map_map];rfl
 rw[e2]
 exact List.Pairwise.map _ (fun a b hab z=>hab (Sum.inl.inj z)) q
theorem Sz:∀{l:List (Int×Value)}{i:Int},valueAt (l.map fun p=>((Sum.inl p.1:Key),p.2)) (Sum.inl i)=tabAt l i
 |[],i=>rfl
 |p::r,i=>by
  unfold valueAt tabAt
  rw[List.map_cons,List.find?_cons,List.find?_cons]
  by_cases h:p.1=i
  ·have h1:decide ((Sum.inl p.1:Key)=Sum.inl i)=true:=decide_eq_true (by rw[h])
   have h2:decide (p.1=i)=true:=decide_eq_true h
   rw[h1,h2];rfl
  ·have h1:decide ((Sum.inl p.1:Key)=Sum.inl i)=false:=decide_eq_false fun z=>h (Sum.inl.inj z)
   have h2:decide (p.1=i)=false:=decide_eq_false h
   rw[h1,h2]
   exact Sz (l:=r) (i:=i)
end
section
variable {X:Cx}{x:Str}{d:Addr}{l:List (Int×Value)}{i:Expr}{ty:TE}{p pos:Pos}
def mQ (l:List (Int×Value))(ty:TE):TE:=fun σ H Q=>ty σ H fun y H1=>∃(n:Int) (u:Value) (v:V),y=.int n/\tabAt l n=some u/\RelV v u/\Q v H1
theorem OV (hg:Gl X x)(hm:X.mg x=some (.ref d))(T:KTab X.K d l)(hi:PE X i ty)(hs:i7 i)(hdb:(x == ("__debug__":Str))=false:=by decide):PE X (.Subscript (.Name x p) i pos) (mQ l ty):=by
 intro pins s σ H Q I h
 refine YK PySem.F.slot_dict_getitem.lookup hs (GH I hg hm ?_ hdb)
 refine thn (hi pins s σ H _ I h) fun iv s1 ⟨y,H1,I1,ry,n,u,v,ey,et,rv,q⟩=>?_
 subst ey
 have dd:=T.dict (P:=X.prog) (w:=X.w) I1.kIn
 refine⟨dd.typeIs,wpAny_getItem_of (k:=(Sum.inl n:Key)) (SH ry) dd.mapOf (v:=u) ?_ ⟨v,H1,I1.tok _,rv,q⟩⟩
 rw[Sz,et]
def jr (Φ:Addr->Sp->Prop)(E:XK)(tf:TE)(t:TA):TE:=fun σ H Q=>tf σ H fun x H1=>∃f sp,x=.ref f/\Φ f sp/\t σ H1 fun vs H2=>sp vs H2 Q E
theorem WW (hr:C1 j X.A)(hf:PE X func tf)(ha:PA X (e::es) t)
  (hΦ:∀f sp,Φ f sp->∃CX k ps,Fn X.prog X.w X.K X.mg X.base CX k f ps sp/\k<=j/\Passes CX X E)
  (hc:eval (.Call func (e::es) [] pos) X.env=(do callWith pos (<-eval func X.env) [] (backTo pos (starEach (e::es) X.env)) (backToKw pos (keywordEach [] X.env))):=by rfl)
  (he:starEach (e::es) X.env=(false,eval e X.env)::starEach es X.env:=by rfl)(hpl:(backTo pos (starEach es X.env)).any (·.1)=false:=by rfl):PE X (.Call func (e::es) [] pos) (jr Φ E tf t):=by
 intro pins s σ H Q I h
 refine Call_ (thn (hf pins s σ H _ I h) fun u s1 ⟨x,H1,I1,rx,f,sp,ex,ph,q⟩=>?_) hc
 subst ex
 obtain rfl:u=Value.ref f:=rx
 obtain⟨CX,k,ps,⟨⟨fd,F,hb⟩,kp⟩,hk,hx⟩:=hΦ f sp ph
 refine PySem.W.callWith_K (h₀:=X.base) I.ok.mod.kin kp (thn (ha pos pins s1 σ H1 _ I1 q) fun us s2 ⟨vs,H2,I2,r,q2⟩=>⟨I2.kIn,?_⟩) he hpl
 have:=Ti (us:=us) (vs:=vs) F (hr.mono hk) hb .nil hx I2 r (by rw[List.append_nil];exact q2)
 simpa using this
end
def As:Nat->List (Int×Int)
 |3=>[(-100000,100000)]
 |6=>[(0,1000000000000000000),(0,1000000),(1,20)]
 |7=>[(1,15),(1,15)]
 |8=>[(0,1),(-100000,100000)]
 |9=>[(0,1)]
 |10=>[(0,8),(0,1),(0,15),(0,15)]
 |11=>[(0,8),(0,1),(0,15),(0,15)]
 |12=>[(0,1)]
 |13=>[(0,1),(1,3),(1,8),(0,15),(0,15)]
 |_=>[]
def rowsOf:Nat->Nat
 |4=>2
 |8=>2
 |7=>0
 |10=>0
 |11=>0
 |12=>0
 |13=>0
 |_=>1
def hR (K:PySem.W.Frag)(l:List (Int×Value)):Prop:=∀c:Nat,c<14->∃(t r:Addr) (ps:List Addr),tabAt l (c:Int)=some (.ref t)/\NH K t [.ref r,.int (rowsOf c:Nat)]/\NH K r (ps.map V.ref)/\
 Paired (fun p (b:Int×Int)=>NH K p [.int b.1,.int b.2]) ps (As c)
def Gives (t:TE)(σ:St)(H:Hp)(v:V):Prop:=∀Q:VK,Q v H->t σ H Q
section
variable {σ:St}{H:Hp}{ta tb tc:TE}{i j k:Int}
theorem AQ (h:σ[n]? =some (some v)):Gives (Ae n) σ H v:=fun Q q=>⟨v,h,q⟩
theorem Ax:Gives (tC v) σ H v:=fun Q q=>q
theorem A9 {K:PySem.W.Frag}{f:Str}{p C dx:Addr}{fs:List (Str×V)}{v:V}(ha:Gives ta σ H (.ref p))(hp:H p=some (.ins C dx fs))(c:Cls K C)(n:A4 K C f)(l:fs.lookup f=some v):Gives (Bq K ta f) σ H v:=
 fun Q q=>ha _ ⟨p,C,dx,fs,v,rfl,hp,c,n,l,q⟩
theorem YS (ha:Gives ta σ H (.int i))(hb:Gives tb σ H (.int j)):Gives (tOp (rI0 g) ta tb) σ H (g i j):=fun Q q=>ha _ (hb _ ⟨i,j,rfl,rfl,q⟩)
theorem T3 (ha:Gives ta σ H (.int i))(hb:Gives tb σ H (.int j))(hc:C i j):Gives (tOp (rI C g) ta tb) σ H (g i j):=fun Q q=>ha _ (hb _ ⟨i,j,rfl,rfl,hc,q⟩)
theorem Fc {K:PySem.W.Frag}{p:Addr}{xs:List V}{n:Nat}{v:V}(ha:Gives ta σ H (.ref p))(hb:Gives tb σ H (.int n))(hp:SqL K H p xs)(hv:xs[n]? =some v):Gives (tOp (N0 K) ta tb) σ H v:=
 fun Q q=>ha _ (hb _ ⟨p,xs,n,v,rfl,rfl,hp,BO hv,q⟩)
theorem cC {K:PySem.W.Frag}{p:Addr}{xs:List V}{n:Nat}{v:V}(ha:Gives ta σ H (.ref p))(hb:Gives tb σ H (.int n))(hp:SqT K H p xs)(hv:xs[n]? =some v):Gives (tOp (kP K) ta tb) σ H v:=
 fun Q q=>ha _ (hb _ ⟨p,xs,n,v,rfl,rfl,hp,BO hv,q⟩)
theorem Mi {K:PySem.W.Frag}{p:Addr}{xs:List V}(ha:Gives ta σ H (.ref p))(hp:SqL K H p xs):Gives (tCB (fun xs H Q=>∃p ys,xs=[.ref p]/\(SqL K H p ys\/SqT K H p ys)/\Q (.int ys.length) H) (CG ta DT)) σ H (.int xs.length):=
 fun Q q=>ha _ ⟨p,xs,rfl,.inl hp,q⟩
theorem CZ {g:Int->Int->Bool}{Q:Bool->Hp->Prop}(ha:Gives ta σ H (.int i))(hb:Gives tb σ H (.int j))(q:Q (g i j) H):Ii (tOp (rI0 fun i j=>.bl (g i j)) ta tb) σ H Q:=
 ha _ (hb _ ⟨i,j,rfl,rfl,_,rfl,q⟩)
theorem Fz (ha:Gives ta σ H (.int i))(hb:Gives tb σ H (.int j))(hc:Gives tc σ H (.int k))(q:Q (decide (i<=j)&&decide (j<=k)) H):
  Ii (W7 (rI0 fun i j=>.bl (decide (i<=j))) (rI0 fun i j=>.bl (decide (i<=j))) ta tb tc) σ H Q:=by
 refine ha _ (hb _ ⟨i,j,rfl,rfl,_,rfl,?_⟩)
 refine BY (fun h=>?_) (fun h=>?_)
 ·rw[h,Bool.true_and]at q
  exact hc _ ⟨j,k,rfl,rfl,_,rfl,q⟩
 ·rw[show decide (i<=j)=false by simpa using h,Bool.false_and]at q
  exact⟨_,rfl,q⟩
theorem lu (ha:Gives ta σ H (.int i))(hb:Gives tb σ H (.int j)):Gives (tOp rEq ta tb) σ H (.bl (decide (i=j))):=fun Q q=>by
 have e:decide (V.int i=V.int j)=decide (i=j):=by
  by_cases h:i=j
  ·rw[decide_eq_true h,decide_eq_true (by rw[h])]
  ·rw[decide_eq_false h,decide_eq_false fun z=>h (V.int.inj z)]
 exact ha _ (hb _ ⟨rfl,by rw[e];exact q⟩)
theorem BN (ha:Gives ta σ H (.int i))(hb:Gives tb σ H (.int j))(q:Q (decide (i=j)) H):Ii (tOp rEq ta tb) σ H Q:=by
 have e:decide (V.int i=V.int j)=decide (i=j):=by
  by_cases h:i=j
  ·rw[decide_eq_true h,decide_eq_true (by rw[h])]
  ·rw[decide_eq_false h,decide_eq_false fun z=>h (V.int.inj z)]
 exact ha _ (hb _ ⟨rfl,_,rfl,by rw[e];exact q⟩)
theorem Bi (h:Q [] H):DT σ H Q:=h
theorem AV (ha:Gives ta σ H v)(h:tr σ H fun xs H2=>Q (v::xs) H2):CG ta tr σ H Q:=ha _ h
theorem fn_ (h:t σ H fun vs H1=>sp vs H1 Q E):tFn sp E t σ H Q:=h
theorem mk_ (h:t σ H fun vs H1=>∀x dx,H1 x=none->H1 dx=none->dx≠x->sp (.ref x::vs) (upd (upd H1 dx (.own x)) x (.ins C dx [])) (fun v H2=>v=.non/\Q (.ref x) H2) E):tMk C sp E t σ H Q:=h
theorem mt_ (ha:Gives ta σ H (.ref p))(hp:H p=some (.ins C dx fs))(hm:fs.lookup m=none)(h:t σ H fun vs H2=>sp (.ref p::vs) H2 Q E):tMt C m sp E ta t σ H Q:=
 ha _ ⟨p,dx,fs,rfl,hp,hm,h⟩
theorem lT (h:Gives te σ H v)(q:D.rt v H):Ql te D σ H:=h _ q
theorem E2 (h:Gives te σ H v)(q:D.nx (σ.set n (some v)) H):N4 te (Eu n) D σ H:=h _ q
theorem nx_ (h:D.nx σ H):Rw D σ H:=h
theorem sq_ (h:t {D with nx:=u D} σ H):Qv t u D σ H:=h
theorem fS (hc:Gives tc σ H (.bl b))(ha:Gives ta σ H va)(hb:Gives tb σ H vb):Gives (tIf (tB tc) ta tb) σ H (if b=true then va else vb):=fun Q q=>by
 refine hc _ ⟨b,rfl,?_⟩
 cases b with
 |true=>exact LB (ha _ q)
 |false=>exact N6 (hb _ q)
end
section
variable {X:Cx}{k v:Expr}{tk tv:TE}{pos:Pos}
def Xf (tk tv:TE):TE:=fun σ H Q=>∀p,H p=none->tk σ (upd H p (.dT [])) fun x H1=>tv σ H1 fun y H2=>∃q ks,x=.ref q/\H2 q=some (.tup (ks.map kV))/\H2 p=some (.dT [])/\Q (.ref p) (upd H2 p (.dT [(ks,y)]))
theorem bK (hu:X.A.units+1<cLine)(hk:PE X k tk)(hv:PE X v tv):PE X (.Dict [some k] [v] pos) (Xf tk tv):=by
 intro pins s σ H Q I h
 have fr:=I.hok.fresh (Nat.le_refl s.heap.objs.size)
 have I1:=I.laid (a:=s.heap.objs.size) (o:=.dT []) (h':=s.heap.push {cls:=.type "dict",data:=.dict #[]}) (t':=s.toks) (fun _ _ q=>Heap.get?_push_of_some _ q) (Nat.le_refl _) (VY s.heap I.big)
 rw[arm_eval_Dict,zip_pairTrees [some k] [v] X.env pos rfl rfl,dictDisplay_pairs _ (by intro z;cases z) (by show 1<17;decide)]
 refine wpAny_bind (wpAny_standAt (wpAny_bind ?_))
 unfold subDict
 refine wpAny_bind (wpAny_alloc (wpAny_bind (wpAny_holding ?_)))
 rw[if_pos (show(pairTrees [some k] [v] X.env pos).length<=15 from(by show 1<=15;decide))]
 refine wpAny_bind (pairTrees_cons_walk (thn (hk pins _ σ _ _ I1 (h _ fr)) fun kv s1 ⟨x,H1,J1,rx,q1⟩=>thn (hv pins s1 σ H1 _ J1 q1) fun vv s2 ⟨y,H2,J2,ry,q,ks,ex,eq',ep,fin⟩=>pairTrees_nil_walk ?_))
 subst ex
 obtain rfl:kv=Value.ref q:=rx
 obtain⟨z,hd,xs,rel,dd⟩:=fi J2.hok ep
 cases rel
 refine wpAny_holding ?_
 have room:(tupleKind (BQ X.prog X.w)).room X.A:=(show X.A.units<cLine by omega)
 rw[List.forIn_cons]
 refine wpAny_bind (wpAny_bind (wpAny_bind (wpAny_dictSet_heap (hsz:=Nat.zero_le _) room (Mt J2.hok eq') dd fun h' dd' hs=>wpAny_pure ?_)))
 show wpAny _ _ (forIn [] PUnit.unit _) _ _ _
 rw[List.forIn_nil]
 refine wpAny_pure (wpAny_pure (wpAny_pure (wpAny_pure ?_)))
 obtain⟨w1,es,en,hw,h2,h3,h4,_,h5⟩:=dd'
 refine⟨.ref s.heap.objs.size,_,Tq (ob:=.dT [(ks,y)]) J2 (by rw[ep];exact True.intro) hs ⟨w1,hw⟩ ⟨(by show 1<=sizeLine;decide),hd,_,.cons ⟨rfl,?_,ry⟩ .nil,w1,es,en,hw,h2,h3,h4,h5⟩,rfl,fin⟩
 show(upd H2 s.heap.objs.size (.dT [(ks,y)])) q=some (.tup (ks.map kV))
 rw[AI (Af eq' ep (fun z=>nomatch z))]
 exact eq'
end
section
variable {prog:Program}{w:World}{A:Around}{E:Value->Shared->Prop}{s:Shared}
theorem bL (hit:IsItemIter s.heap it d i n ep ok ov)
  (hQ:∀h',IsItemIterOut h' it d i n ep kx vx s.heap.objs.size->h'.get? s.heap.objs.size=some {cls:=.type "tuple",data:=.seq #[kx,vx]}->
   (∀b o,b≠it->s.heap.get? b=some o->h'.get? b=some o)->Q (.ref s.heap.objs.size) {s with heap:=h'}):
  wpAny (model prog w) A (Builtin.Dict_items.pairFromOwner (.ref it) 6 kx vx) Q E s:=by
 have lt:it<s.heap.objs.size:=Heap.lt_size hit
 unfold Builtin.Dict_items.pairFromOwner Builtin.Dict_items.ownedTupleIsFree
 refine wpAny_bind (wpAny_newTuple (wpAny_bind (wpAny_bind (wpAny_field (Heap.get?_push_of_some _ hit) rfl (x:=.none) rfl (wpAny_pure ?_)))))
 rw[if_pos rfl]
 refine wpAny_bind (wpAny_field (Heap.get?_push_of_some _ hit) rfl (x:=ok) rfl (wpAny_bind (wpAny_field (Heap.get?_push_of_some _ hit) rfl (x:=ov) rfl ?_)))
 refine wpAny_bind (wpAny_setField_rec (Heap.get?_push_of_some _ hit) (by show 6<8;decide) fun g1 e1 k1=>wpAny_bind (wpAny_setField_rec e1 (by show 7<8;decide) fun g2 e2 k2=>?_))
 refine wpAny_bind (wpAny_setField_rec e2 (by show 0<8;decide) fun g3 e3 k3=>wpAny_bind (wpAny_setField_rec e3 (by show 1<8;decide) fun g4 e4 k4=>wpAny_bind (wpAny_letGo (wpAny_pure ?_))))
 have all:∀b,b≠it->g4.get? b=(s.heap.push {cls:=.type "tuple",data:=.seq #[kx,vx]}).get? b:=fun b hb=>(k4.2 b hb).trans ((k3.2 b hb).trans ((k2.2 b hb).trans (k1.2 b hb)))
 exact hQ g4 e4 ((all _ (Nat.ne_of_gt lt)).trans (Heap.get?_push_size _ rfl)) fun b o hb e=>(all b hb).trans (Heap.get?_push_of_some _ e)
theorem Sk (hh:A.handled=none)(hit:IsItemIter s.heap it d i n ep ok ov)
  (hod:s.heap.get? d=some od)(hdd:od.data=.dict es ep)(hsz:es.size=n)
  (more:∀en,es[i]? =some en->∀h',IsItemIterOut h' it d (i+1) n ep en.key en.val s.heap.objs.size->h'.get? s.heap.objs.size=some {cls:=.type "tuple",data:=.seq #[en.key,en.val]}->
   (∀b o,b≠it->s.heap.get? b=some o->h'.get? b=some o)->Q (some (.ref s.heap.objs.size)) {s with heap:=h'})
  (done:n<=i->∀h',Heap.ExtBut it s.heap h'->Q none {s with heap:=h'}):wpAny (model prog w) A (pyNext (.ref it)) Q E s:=by
 have ty:s.TypeIs (.ref it) "dict_itemiterator":=⟨_,hit,rfl⟩
 have own:Builtin.Dict_items.ownsTuple "dict_itemiterator"=true:=by decide
 unfold pyNext
 refine wpAny_bind (wpAny_attempt (wpAny_callSpecial?_slot (name:=Str.ofString "__next__") ty F.slot_dict_itemiterator_next (wpAny_call_entry F.slot_dict_itemiterator_next ty F.entry_dict_itemiterator_next
  (wpAny_bind (wpAny_pure (wpAny_bind (wpAny_bind (wpAny_bind (wpAny_typeNameOfWhole_itemiter ty (wpAny_pure (wpAny_bind (wpAny_fieldsOf hit rfl ?_))))))))) (F.args_dict_itemiterator_next_1 _))))
 rw[own,if_pos rfl]
 show wpAny _ _ (if(Value.ref d == Value.none)=true then _ else _) _ _ _
 refine(if_neg (show ¬((Value.ref d == Value.none)=true)from nofun)).symm▸wpAny_bind (wpAny_pure (wpAny_bind (wpAny_dictEntries hod hdd ?_)))
 rw[if_neg (by rw[hsz];simp)]
 refine wpAny_bind (wpAny_pure (wpAny_bind (wpAny_dictEpoch hod hdd ?_)))
 rw[if_neg (by simp)]
 refine wpAny_pure ?_
 by_cases hi:i<es.size
 ·have hx:es[i]? =some es[i]:=Array.getElem?_eq_getElem hi
  simp only[show ¬((i:Int)<0)from by omega,if_false,Int.toNat_natCast,hx]
  refine wpAny_bind (wpAny_bind (wpAny_typeNameOfWhole_itemiter ty (wpAny_pure (wpAny_bind (wpAny_isOneOf_itemiter ty ?_)))))
  refine wpAny_bind (wpAny_setField_rec (k:=3) (x:=rawInt ((i:Int)+1)) hit (by show 3<8;decide) fun g e k=>?_)
  have e1:IsItemIter g it d (i+1) n ep ok ov:=by
   have z:((i+1:Nat):Int)=(i:Int)+1:=by omega
   unfold IsItemIter
   rw[z]
   exact e
  have z1:g.objs.size=s.heap.objs.size:=k.1
  refine wpAny_bind (wpAny_holding (wpAny_bind (wpAny_isOneOf_itemiter (s:={s with heap:=g}) ⟨_,e1,rfl⟩ (wpAny_bind (wpAny_isOneOf_itemiter (s:={s with heap:=g}) ⟨_,e1,rfl⟩ ?_)))))
  refine bL (s:={s with heap:=g}) e1 fun h' o1 o2 o3=>wpAny_pure ⟨_,rfl,wpAny_pure ?_⟩
  have o1:IsItemIterOut h' it d (i+1) n ep es[i].key es[i].val g.objs.size:=o1
  have o2:h'.get? g.objs.size=some {cls:=.type "tuple",data:=.seq #[es[i].key,es[i].val]}:=o2
  rw[z1]at o1 o2
  show Q (some (.ref g.objs.size)) {s with heap:=h'}
  rw[z1]
  exact more _ hx h' o1 o2 fun b o hb q=>o3 b o hb ((k.2 b hb).trans q)
 ·have hx:es[i]? =none:=Array.getElem?_eq_none (by omega)
  simp only[show ¬((i:Int)<0)from by omega,if_false,Int.toNat_natCast,hx]
  refine wpAny_bind (wpAny_bind (wpAny_typeNameOfWhole_itemiter ty (wpAny_pure ?_)))
  refine wpAny_bind (wpAny_setField (i:=2) (x:=.none) hit rfl (by show 2<8;decide) (wpAny_bind ?_))
  simp only[newExc,newTuple,raiseNew]
  refine wpAny_bind (wpAny_newObj_type (wpAny_bind (m:=firstArgMember _ _) (wpAny_of_eq (a:=Value.none) (by first|rfl|(simp only[firstArgMember];rfl)) (wpAny_newObj_type (wpAny_bind (wpAny_handled ?_)) (by size_fits)))) (by size_fits))
  rw[show A.in1.handled=none from hh]
  refine wpAny_bind (wpAny_pure (wpAny_throw ?_))
  exact wpAny_bind (wpAny_isInstance (T:="StopIteration") (b:=true) ⟨_,Heap.get?_push_size _ rfl,rfl⟩ isSubtype_stop (wpAny_pure (done (by omega) _ (((Heap.SameBut.update ..).extBut.push _).push _))))
theorem Xg (v:Addr)(hv:s.heap.IsItemsView v d)(ho:s.heap.get? d=some o)(hd:o.data=.dict es ep)
  (q:Q (.ref s.heap.objs.size) {s with heap:=s.heap.push {cls:=.type "dict_itemiterator",data:=.fields #[.none,.bool false,.ref d,.int 0 0,.int es.size 0,.int ep 0,.none,.none]}}):wpAny (model prog w) A (pyIter (.ref v)) Q E s:=by
 have own:Builtin.Dict_items.ownsTuple "dict_itemiterator"=true:=by decide
 obtain⟨vo,h1,h2,h3⟩:=id hv
 refine wpAny_pyIter_slot hv.typeIs F.slot_dict_items_iter (wpAny_call_entry F.slot_dict_items_iter hv.typeIs F.entry_dict_items_iter ?_ (F.args_dict_items_iter_1 _))
 unfold Builtin.«dict_items.__iter__» Builtin.Dict_items.dictOf Builtin.Dict_items.newIterator
 refine wpAny_bind (wpAny_pure (wpAny_bind (wpAny_bind (wpAny_field h1 h3 (x:=.ref d) rfl (wpAny_pure (wpAny_bind (wpAny_bind (wpAny_dictEntries ho hd (wpAny_bind (wpAny_dictEpoch ho hd ?_))))))))))
 rw[own]
 exact wpAny_newObj_type (wpAny_pure ⟨_,rfl,"dict_itemiterator",_,⟨_,Heap.get?_push_size _ rfl,rfl⟩,F.slot_dict_itemiterator_next.lookup,q⟩) (by rw[if_pos rfl];unfold sizeOk Builtin.Dict_items.ownedTupleFields;show(_:List Value).toArray.size<=_;rw[List.size_toArray];show 8<=_;rw[sizeLine_eq];decide)
theorem Xh (d:Addr)(hd:(d == sysModules)=false):MeetsIn prog w (Builtin.«dict.items» ⟨[.ref d],[]⟩) (fun _ R s=>s.TypeIs (.ref d) "dict"/\R (.ok (.ret (.ref s.heap.objs.size))) {s with heap:=s.heap.push {cls:=.type "dict_items",data:=.fields #[.ref d]}}):=
 .of_wp fun A R s ⟨ty,h⟩=>by
  unfold Builtin.«dict.items» Builtin.Dict.noArgs
  refine wpAny_bind (wpAny_bind (wpAny_notOrdered_dict ty (wpAny_pure ?_)))
  show wpAny _ _ (Builtin.Dict.showsAll d>>=_) _ _ s
  unfold Builtin.Dict.showsAll
  rw[if_neg (by rw[hd];nofun)]
  exact wpAny_bind (wpAny_pure (wpAny_bind (wpAny_newObj_type (wpAny_pure ⟨_,rfl,h⟩))))
end
section
variable {X:Cx}{pins:List (Addr×Obj)}{σ:St}{H:Hp}{s:Shared}{d:Addr}{o:Obj}
theorem Inv.jY (I:Inv X pins σ H s)(h:H d=some (.frz o (.dT kvs))):(d == sysModules)=false/\s.heap.get? d=some o/\o.ExactDict/\∃(es:Array DictEntry) (ep:Nat),o.data=.dict es ep/\es.size=kvs.length/\
   ∀(i:Nat) (k:List Key) (v:V),kvs[i]? =some (k,v)->∃(en:DictEntry) (q:Addr),es[i]? =some en/\en.key=.ref q/\H q=some (.tup (k.map kV))/\RelV v en.val:=by
 obtain⟨hd,z,hs,xs,pr,o',es,ep,ho,hx,hdt,he,_⟩:=I.hok d _ h
 rw[hd]at ho
 cases ho
 have l1:es.size=xs.length:=size_of_entries he
 have l2:kvs.length=xs.length:=Paired.length pr
 refine⟨hs,hd,hx,es,ep,hdt,by omega,fun i k v e=>?_⟩
 obtain⟨b,hb,e1,e2,e3⟩:=XH pr e
 have q:=entry_at he i
 rw[hb]at q
 exact⟨_,b.2.1,q,rfl,e2,e3⟩
def bM (d:Addr)(o:Obj)(kvs:List (List Key×V)):It:=
 ⟨fun i H=>H d=some (.frz o (.dT kvs))/\i<kvs.length,fun i H x H'=>∃(T:Addr) (k:List Key) (v:V) (q:Addr),kvs[i]? =some (k,v)/\x=.ref T/\H T=none/\H q=some (.tup (k.map kV))/\H'=upd H T (.tup [.ref q,v]),fun i H=>H d=some (.frz o (.dT kvs))/\kvs.length<=i⟩
end
section
variable {P:Program}{w:World}{K:PySem.W.Frag}{d:Addr}{o:Obj}{es:Array DictEntry}{ep:Nat}
theorem V6 (it:Addr)(hod:o.data=.dict es ep):
  Turn P w K (.Tuple elts kk tpos) (bM d o kvs) [it] it (fun i h=>∃ok ov,IsItemIter h it d i kvs.length ep ok ov) where
 mem:=by simp
 obj:=fun i h ⟨_,_,e⟩ b hb=>by
  obtain rfl:b=it:=by simpa using hb
  exact⟨_,e,fun v z=>nomatch z⟩
 keep:=fun i h h' ⟨ok,ov,e⟩ k=>⟨ok,ov,k it (by simp) _ e⟩
 item:=by
  intro X hP hw hK hc i pins s σ H E I hf ⟨ok,ov,st⟩ ⟨hd,hi⟩
  subst hP hw hK
  obtain⟨hs,hgd,hx,es',ep',hdt,hsz,ent⟩:=I.jY hd
  obtain⟨rfl,rfl⟩:=YO hod hdt
  obtain⟨⟨k,v⟩,hkv⟩:∃p,kvs[i]? =some p:=⟨kvs[i],List.getElem?_eq_getElem hi⟩
  obtain⟨en,q,hen,hkey,hq,rv⟩:=ent i k v hkv
  have hlt:it<s.heap.objs.size:=Heap.lt_size st
  refine Sk (I.ok.hd hc) st hgd hdt hsz (fun en' hen' h' ho hT hk=>?_) (fun z=>absurd hi (by omega))
  rw[hen]at hen'
  cases hen'
  refine⟨_,rfl,wpAny_letOwnedTupleGo_items (s:={s with heap:=h'}) ho fun g e sb=>?_⟩
  have hT2:g.get? s.heap.objs.size=some {cls:=.type "tuple",data:=.seq #[en.key,en.val]}:=(sb.2 _ (Nat.ne_of_gt hlt)).trans hT
  have new:Bk X.prog X.w (upd H s.heap.objs.size (.tup [.ref q,v])) g s.heap.objs.size (.tup [.ref q,v]):=⟨by show 2<=sizeLine;decide,[en.key,en.val],.cons hkey (.cons rv .nil),⟨_,hT2,rfl,_,rfl⟩⟩
  refine⟨.ref s.heap.objs.size,_,I.Mv (t':=s.toks) (ch:=[it]) (fun b ob hb e=>(sb.2 b (by simpa using hb)).trans (hk b ob (by simpa using hb) e)) hf (Nat.le_refl _) new,rfl,⟨_,k,v,q,hkv,rfl,I.hok.fresh (Nat.le_refl _),hq,rfl⟩,⟨_,_,e⟩,fun b hb=>?_⟩
  obtain rfl:b=it:=by simpa using hb
  rw[AI (Nat.ne_of_lt hlt)]
  exact(hf b (by simp)).1
 done:=by
  intro X hP hw hK hc i pins s σ H E I hf ⟨ok,ov,st⟩ ⟨hd,hi⟩
  subst hP hw hK
  obtain⟨f0,f1,f2,f3,f4,f5⟩:=hf it (by simp)
  obtain⟨hs,hgd,hx,es',ep',hdt,hsz,ent⟩:=I.jY hd
  obtain⟨rfl,rfl⟩:=YO hod hdt
  exact Sk (I.ok.hd hc) st hgd hdt hsz (fun en hen=>by rw[Array.getElem?_eq_none (by omega)]at hen;cases hen) fun _ h' eb=>⟨rfl,I.turned (t':=s.toks) (fun b ob hb e=>eb b ob hb e) f0 f1 f3 f4 f5⟩
 self:=fun A i s Q E ⟨_,_,e⟩ h=>PySem.W.kcp_self e h
end
section
variable {X:Cx}{e:Expr}{td:TE}{apos cpos:Pos}
def eO (td:TE):TI:=fun σ H R=>td σ H fun x H1=>∃d o kvs,x=.ref d/\H1 d=some (.frz o (.dT kvs))/\R (bM d o kvs) H1
theorem Sl (he:PE X e td)(hbase:attributeBase e "items" X.env (eval e X.env)=eval e X.env:=by rfl)(hline:(apos.endLine == cpos.line)=true:=by rfl):
  PI X (.Tuple elts kk tpos) (.Call (.Attribute e "items" apos) [] [] cpos) (eO td):=by
 intro pins s σ H R I h
 refine wpAny_Call_method (T:="dict") (id:="dict.items") hbase rfl hline F.plainAttrs_dict F.slot_dict_items F.type_dict_items (thn (he pins s σ H _ I h) fun u s1 ⟨x,H1,I1,rx,d,o,kvs,ex,hd,q⟩=>?_)
 subst ex
 obtain rfl:u=Value.ref d:=rx
 obtain⟨hs,hgd,hx,es,ep,hdt,hsz,ent⟩:=I1.jY hd
 have ty:s1.TypeIs (.ref d) "dict":=⟨o,hgd,hx.1⟩
 refine⟨ty,fun b z=>by cases z;exact⟨o,hgd,hx.2.1⟩,?_⟩
 have I2:Inv X pins σ H1 {s1 with heap:=s1.heap.push {cls:=.type "dict_items",data:=.fields #[.ref d]}}:=I1.kept (t':=s1.toks) fun b ob q=>Heap.get?_push_of_some _ q
 refine method_meetsIn F.slot_dict_items F.entry_dict_items rfl (PySem.evalArgs_none ⟨rfl,ty,F.args_dict_items_1 _,_,Xh d hs,ty,?_⟩)
 refine Xg s1.heap.objs.size ⟨_,Heap.get?_push_size _ rfl,rfl,rfl⟩ (Heap.get?_push_of_some _ hgd) hdt (XG (tk:=s1.toks) I2 _ (V6 _ hdt) ⟨.none,.none,?_⟩ q)
 rw[<-hsz]
 exact Heap.get?_push_size _ rfl
end
theorem fI:typeLookup (.type "list_reverseiterator") "__len__"=pure none:=by rw[typeLookup_type,builtinLookup_eq_fast];kernel_rfl
theorem cK:typeLookup (.type "list_reverseiterator") "__length_hint__"=pure (some (.builtin "list_reverseiterator.__length_hint__")):=by rw[typeLookup_type,builtinLookup_eq_fast];kernel_rfl
theorem Zt:splitId "list_reverseiterator.__length_hint__"=some ("list_reverseiterator","__length_hint__"):=by decide +kernel
section
variable {prog:Program}{w:World}{A:Around}{E:Value->Shared->Prop}{s:Shared}
theorem Xx (ty:s.TypeIs (.ref I) "list_reverseiterator")(q:Q false s):wpAny (model prog w) A (Builtin.List.listLengthHint (.ref I)) Q E s:=by
 unfold Builtin.List.listLengthHint
 refine wpAny_bind (wpAny_specialOf ty fI ?_)
 show wpAny _ _ (specialOf (Value.ref I) (Str.ofString "__length_hint__")>>=_) _ _ _
 refine wpAny_bind (wpAny_specialOf ty cK ?_)
 generalize hid:("list_reverseiterator.__length_hint__":String)=z
 have sp:splitId z=some ("list_reverseiterator","__length_hint__"):=by rw[<-hid];exact Zt
 wp_delta
 rw[sp]
 subst hid
 refine wpAny_bind (wpAny_isInstance (b:=true) ty (by rw[isSubtype_type];kernel_rfl) ?_)
 exact wpAny_pure q
theorem Rn (hh:A.handled=none)(hne:l≠I)(hit:s.heap.IsRevIter I l ((items.size:Int) - 1))(hl:s.heap.IsList l items)(hz:items.size<=sizeLine)
  (hQ:∀s' acc c,(∀b o,b≠I->s.heap.get? b=some o->s'.heap.get? b=some o)->s'.gens=s.gens->s'.drawn=s.drawn->s'.os=s.os->s'.heap.get? s.heap.objs.size=some {cls:=.type "list",dict:=none,data:=.seq acc c,slots:=#[]}->
   acc.size=items.size->(∀j v,acc[j]? =some v->items[items.size - 1 - j]? =some v)->Q (.ref s.heap.objs.size) s'):wpAny (model prog w) A (call (.type "list") [.ref I]) Q E s:=by
 have lI:I<s.heap.objs.size:=by obtain⟨_,e,_⟩:=hit;exact Heap.lt_size e
 have ll:l<s.heap.objs.size:=by obtain⟨_,e,_⟩:=hl;exact Heap.lt_size e
 have W:=(Walks.listRev (prog:=prog) (w:=w) (A:=A.in1.in1) hh I l hne items).toS
 have nf:s.heap.objs.size∉[I,l]:=fun z=>by
  rcases List.mem_cons.mp z with z|z
  ·exact Nat.ne_of_gt lI z
  ·exact Nat.ne_of_gt ll (List.mem_singleton.mp z)
 refine callType_codes (Q₁:=fun obj s₁=>obj=.ref s.heap.objs.size/\s₁={s with heap:=s.heap.push {cls:=.type "list",data:=.seq #[]}}) F.called_list (F.typeCall_list_1 _) F.entry_list_init (code_list_new _ ⟨rfl,rfl⟩) fun obj s₁ h₁=>?_
 obtain⟨rfl,rfl⟩:=h₁
 have hS:(s.heap.push {cls:=.type "list",data:=.seq #[]}).get? s.heap.objs.size=some {cls:=.type "list",data:=.seq #[]}:=Heap.get?_push_size _ rfl
 refine⟨⟨_,hS,rfl⟩,F.args_list_init_2 _ _,?_⟩
 show wpAny _ _ (do let old <-Builtin.List.listItems (.ref s.heap.objs.size);Builtin.List.listUpdate (.ref s.heap.objs.size) (fun _=>#[]);letGo old.toList.reverse;Builtin.List.listExtendWith (.ref s.heap.objs.size) (.ref I) .none) _ _ _
 unfold Builtin.List.listItems Builtin.List.listUpdate
 refine wpAny_bind (wpAny_bind (wpAny_seqItems hS rfl (wpAny_pure (wpAny_bind (wpAny_updateSeq hS rfl (wpAny_bind (wpAny_letGo ?_)))))))
 have hS2:=Heap.get?_update_self (Obj.mapSeq (fun _=>(#[]:Array Value))) hS rfl
 have up:∀b o,s.heap.get? b=some o->((s.heap.push {cls:=.type "list",data:=.seq #[]}).update s.heap.objs.size (Obj.mapSeq (fun _=>(#[]:Array Value)))).get? b=some o:=fun b o e=>
  (Heap.get?_update_other _ _ (Nat.ne_of_gt (Heap.lt_size e))).trans (Heap.get?_push_of_some _ e)
 have hit2:=hit.at fun o e=>up I o e
 have hl2:=hl.at fun o e=>up l o e
 generalize((s.heap.push {cls:=.type "list",data:=.seq #[]}).update s.heap.objs.size (Obj.mapSeq (fun _=>(#[]:Array Value))))=g at hS2 up hit2 hl2
 unfold Builtin.List.listExtendWith
 refine wpAny_bind (wpAny_typeOf (T:="list_reverseiterator") hit2.typeIs ?_)
 have h1:Builtin.List.listSameRef (.ref s.heap.objs.size) (.ref I)=false:=by
  show(s.heap.objs.size == I)=false
  exact beq_eq_false_iff_ne.mpr (Nat.ne_of_gt lI)
 rw[if_neg (by rw[h1];decide)]
 refine wpAny_bind (wpAny_pyIter_revIter hit2 (wpAny_bind (wpAny_holding (Xx hit2.typeIs ?_))))
 rw[if_neg (by decide)]
 refine wpAny_pure ⟨plainId_quiet F.plain_extend_loop _,codeAny_extend_loopS W hz _ nf _ items.size 0 _ _ _ (Nat.sub_zero _) (Nat.zero_le _) ⟨Nat.zero_le _,?_,hl2⟩ hS2 (ItemsOf.nil _) fun s' acc c' hm hS' hacc=>?_⟩
 ·have e:(items.size:Int) - 1 - ((0:Nat):Int)=(items.size:Int) - 1:=by omega
  rw[e]
  exact hit2
 ·refine⟨rfl,hQ s' acc c' (fun b o hb e=>hm.heap b o (fun z=>?_) (up b o e)) hm.gens hm.drawn hm.os hS' hacc.1 hacc.2⟩
  rcases List.mem_cons.mp z with z|z
  ·exact Nat.ne_of_lt (Heap.lt_size e) z
  ·exact hb (List.mem_singleton.mp z)
end
section
variable {X:Cx}{e:Expr}{te:TE}{p p2 pos pos2:Pos}
theorem cM:bootBuiltins "reversed"=some (.type "reversed"):=by decide +kernel
def cN (K:PySem.W.Frag)(te:TE):TE:=fun σ H Q=>te σ H fun x H1=>∃a xs,x=.ref a/\SqL K H1 a xs/\∀l,H1 l=none->Q (.ref l) (upd H1 l (.lst xs.reverse))
theorem cO {xs:List V}{its:List Value}{acc:Array Value}(r:Vals xs its)(hs:acc.size=its.toArray.size)(ha:∀j v,acc[j]? =some v->its.toArray[its.toArray.size - 1 - j]? =some v):acc.toList=its.reverse:=by
 have hs':acc.size=its.length:=by simpa using hs
 refine List.ext_getElem? fun j=>?_
 by_cases hj:j<its.length
 ·have e1:acc[j]? =some (acc[j]'(by omega)):=Array.getElem?_eq_getElem (by omega)
  have e2:=ha j _ e1
  rw[Array.getElem?_toList,e1,List.getElem?_reverse hj,<-e2]
  simp
 ·rw[Array.getElem?_toList,Array.getElem?_eq_none (by omega),List.getElem?_eq_none (by rw[List.length_reverse];omega)]
theorem cP (r:Vals xs its):Vals xs.reverse its.reverse:=by
 induction r with
 |nil=>exact .nil
 |cons h t ih=>
  rw[List.reverse_cons,List.reverse_cons]
  exact Vals.append ih (.cons h .nil)
theorem Xy (hc:X.calm=true)(hg:Gl X "list")(hm:X.mg "list"=none)(hg2:Gl X "reversed")(hm2:X.mg "reversed"=none)(he:PE X e te)
  (hs:starEach [e] X.env=[(false,eval e X.env)]:=by rfl)(hs2:starEach [.Call (.Name "reversed" p2) [e] [] pos2] X.env=[(false,eval (.Call (.Name "reversed" p2) [e] [] pos2) X.env)]:=by rfl):
  PE X (.Call (.Name "list" p) [.Call (.Name "reversed" p2) [e] [] pos2] [] pos) (cN X.K te):=by
 intro pins s σ H Q I h
 refine wpAny_Call_Name_kw (JQ I hg hm eB (PyProof.Rows.callWith_type1 ?_ hs2 rfl))
 rw[hs2]
 refine Calls.spliced_cons (wpAny_Call_Name_kw (JQ I hg2 hm2 cM (PyProof.Rows.callWith_type1 ?_ hs rfl)))
 rw[hs]
 refine Calls.spliced_cons (thn (he pins s σ H _ I h) fun u s1 ⟨x,H1,I1,rx,a,xs,ex,hq,q⟩=>?_)
 subst ex
 obtain rfl:u=Value.ref a:=rx
 refine Calls.spliced_nil ?_
 obtain⟨its,rv,pl,hz⟩:=I1.list hq
 have hlen:=rv.length
 have la:a<s1.heap.objs.size:=pl.lt
 refine call_reversed_list pl.isList (Calls.spliced_nil (Rn (l:=a) (items:=its.toArray) (I1.ok.hd hc) (Nat.ne_of_lt la) ⟨_,Heap.get?_push_size _ rfl,rfl,rfl⟩ (pl.isList.push _) (by simp only[List.size_toArray];omega) ?_))
 intro s' acc c hk hg' hd' ho' hnew hsz hacc
 have el:=cO rv hsz hacc
 have kp:∀b o,s1.heap.get? b=some o->s'.heap.get? b=some o:=fun b o e=>hk b o (Nat.ne_of_lt (Heap.lt_size e)) (Heap.get?_push_of_some _ e)
 have es:s'={s1 with heap:=s'.heap,toks:=s'.toks}:=by
  obtain⟨h',g',d',t',o'⟩:=s'
  cases hg'
  cases hd'
  cases ho'
  rfl
 rw[es]
 have hle:s1.heap.objs.size<=(s1.heap.push (revObj a ((its.toArray.size:Int) - 1))).objs.size:=by rw[Heap.size_push];exact Nat.le_succ _
 refine⟨.ref _,_,I1.laid (t':=s'.toks) kp hle (show Bk X.prog X.w _ s'.heap _ (.lst xs.reverse)from⟨by rw[List.length_reverse];exact hz,its.reverse,c,cP rv,?_⟩),rfl,q _ (I1.hok.fresh hle)⟩
 rw[<-el]
 exact hnew
end
theorem Pz {d:Addr}{o:Obj}{kvs:List (List Key×V)}{g:TG}{tb:TS}{D:Ends}{σ:St}{H:Hp}(Pv:Nat->St->Hp->Prop)(h0:Pv 0 σ H)(hl:∀i σ H,i<=kvs.length->Pv i σ H->H d=some (.frz o (.dT kvs)))
  (hs:∀i k v σ H T q,kvs[i]? =some (k,v)->Pv i σ H->H T=none->H q=some (.tup (k.map kV))->g (.ref T) σ (upd H T (.tup [.ref q,v])) fun σ2 H2=>tb {D with nx:=Pv (i+1),ct:=Pv (i+1),bk:=D.nx} σ2 H2)(hd:∀σ H,Pv kvs.length σ H->D.nx σ H):
  ∃W:Nat->Nat->St->Hp->Prop,(∃m,W 0 m σ H)/\∀i m σ H,W i m σ H->
   ((bM d o kvs).stop i H/\D.nx σ H)\/((bM d o kvs).go i H/\∃N:St->Hp->Prop,(∀σ' H',N σ' H'->∃m',m'<m/\W (i+1) m' σ' H')/\∀x H',(bM d o kvs).yld i H x H'->g x σ H' fun σ2 H2=>tb {D with nx:=N,ct:=N,bk:=D.nx} σ2 H2):=by
 refine⟨fun i m σ H=>m=kvs.length - i/\i<=kvs.length/\Pv i σ H,⟨kvs.length,by simp,Nat.zero_le _,h0⟩,?_⟩
 rintro i m σ H ⟨rfl,hi,p⟩
 have e0:=hl i σ H hi p
 by_cases hlt:i<kvs.length
 ·refine .inr ⟨⟨e0,hlt⟩,Pv (i+1),fun σ' H' p'=>⟨kvs.length - (i+1),by omega,rfl,hlt,p'⟩,fun x H' y=>?_⟩
  obtain⟨T,k,v,q,e1,e2,e3,e4,e5⟩:=y
  subst e2 e5
  exact hs i k v σ H T q e1 p e3 e4
 ·have e:i=kvs.length:=by omega
  subst e
  exact .inl ⟨⟨e0,Nat.le_refl _⟩,hd σ H p⟩
section
variable {prog:Program}{w:World}{A:Around}{E:Value->Shared->Prop}{s:Shared}
structure Src (prog:Program)(w:World)(A:Around)(it l:Addr)(n:Nat)(val:Nat->Value->Prop)(st:Nat->Heap->Prop):Prop where
 keep:∀i h h',st i h->(∀o,h.get? it=some o->h'.get? it=some o)->(∀o,h.get? l=some o->h'.get? l=some o)->st i h'
 item:∀(i:Nat) (s:Shared) (Q:Value->Shared->Prop) (E:Value->Shared->Prop),st i s.heap->i<n->(∀v h',val i v->st (i+1) h'->Heap.SameBut it s.heap h'->Q v {s with heap:=h'})->wpAny (model prog w) A (Builtin.SmallTypes.nextOf (.ref it)) Q E s
 done:∀(i:Nat) (s:Shared) (Q:Value->Shared->Prop) (E:Value->Shared->Prop),st i s.heap->n<=i->(∀h' e,Heap.ExtBut it s.heap h'->(∃o,h'.get? e=some o/\o.cls=.type "StopIteration")->E (.ref e) {s with heap:=h'})->wpAny (model prog w) A (Builtin.SmallTypes.nextOf (.ref it)) Q E s
theorem src_list (hh:A.handled=none){it l:Addr}{items:Array Value}(ne:l≠it):Src prog w A it l items.size (fun i v=>items[i]? =some v) (fun i h=>h.IsListIter it l i/\h.IsList l items) where
 keep:=fun i h h' st k1 k2=>⟨st.1.at fun o e=>k1 o e,st.2.at fun o e=>k2 o e⟩
 item:=fun i s Q E st hi q=>wpAny_nextOf_list_item st.1 st.2 (Array.getElem?_eq_getElem hi) fun h' st' sb=>q _ h' (Array.getElem?_eq_getElem hi) ⟨st',st.2.at fun o e=>(sb.2 l ne).trans e⟩ sb
 done:=fun i s Q E st hi q=>wpAny_nextOf_list_end hh st.1 st.2 (Array.getElem?_eq_none hi) q
theorem WE {it t:Addr}{i:Nat}{items:Array Value}{Q:Value->Shared->Prop}(hh:A.handled=none)(hit:s.heap.IsTupleIter it t i)(ht:s.heap.IsTuple t items)
  (more:∀v h',items[i]? =some v->h'.IsTupleIter it t (i+1)->Heap.SameBut it s.heap h'->Q v {s with heap:=h'})
  (done:items.size<=i->∀h' e,Heap.ExtBut it s.heap h'->(∃o,h'.get? e=some o/\o.cls=.type "StopIteration")->E (.ref e) {s with heap:=h'}):wpAny (model prog w) A (Builtin.SmallTypes.nextOf (.ref it)) Q E s:=by
 obtain⟨o,ho,hc,hd⟩:=id hit
 obtain⟨ol,hol,_,nl,hdl⟩:=ht
 unfold Builtin.SmallTypes.nextOf
 refine wpAny_bind (wpAny_callSpecial?_slot (name:=Str.ofString "__next__") hit.typeIs F.slot_tuple_iterator_next (wpAny_call_entry F.slot_tuple_iterator_next hit.typeIs F.entry_tuple_iterator_next ?_ (F.args_tuple_iterator_next_1 _)))
 refine wpAny_bind (wpAny_pure (wpAny_bind (wpAny_field (i:=0) ho hd (x:=.ref t) rfl ?_)))
 refine(if_neg (show ¬((Value.ref t == Value.none)=true)from nofun)).symm▸wpAny_bind (wpAny_field (i:=1) ho hd (x:=.int i 0) rfl (wpAny_bind (wpAny_seqItems hol hdl ?_)))
 by_cases hi:i<items.size
 ·simp only[Int.toNat_natCast,Array.getElem?_eq_getElem hi]
  refine wpAny_bind (wpAny_setField ho hd (by show 1<2;decide) (wpAny_pure ⟨_,rfl,wpAny_pure (more _ _ (Array.getElem?_eq_getElem hi) ?_ (Heap.SameBut.update ..))⟩))
  exact⟨_,Heap.get?_update_self _ ho (Obj.isFreed_of_fields (Obj.data_mapFields hd _)),(Obj.cls_mapFields ..).trans hc,(Obj.data_mapFields hd _).trans rfl⟩
 ·simp only[Int.toNat_natCast,Array.getElem?_eq_none (show items.size<=i by omega)]
  refine wpAny_bind (wpAny_rule (wpAny_bind (wpAny_setField ho hd (by show 0<2;decide) (wpAny_bind ?_))))
  simp only[newExc,newTuple,raiseNew]
  refine wpAny_bind (wpAny_newObj_type (wpAny_bind (m:=firstArgMember _ _) (wpAny_of_eq (a:=Value.none) (by first|rfl|(simp only[firstArgMember];rfl)) (wpAny_newObj_type (wpAny_bind (wpAny_handled ?_)) (by size_fits)))) (by size_fits))
  first|rw[show A.in1.handled=none from hh]|rw[hh]
  refine wpAny_bind (wpAny_pure (wpAny_throw ?_))
  exact done (by omega) _ _ (((Heap.SameBut.update ..).extBut.push _).push _) ⟨_,Heap.get?_push_size _ rfl,rfl⟩
theorem Yp (hh:A.handled=none){it t:Addr}{items:Array Value}(ne:t≠it):Src prog w A it t items.size (fun i v=>items[i]? =some v) (fun i h=>h.IsTupleIter it t i/\h.IsTuple t items) where
 keep:=fun i h h' st k1 k2=>⟨st.1.at fun o e=>k1 o e,let⟨o,e,r⟩:=st.2;⟨o,k2 o e,r⟩⟩
 item:=fun i s Q E st hi q=>WE hh st.1 st.2 (fun v h' hv st' sb=>q v h' hv ⟨st',let⟨o,e,r⟩:=st.2;⟨o,(sb.2 t ne).trans e,r⟩⟩ sb) (fun z=>absurd hi (by omega))
 done:=fun i s Q E st hi q=>WE hh st.1 st.2 (fun v h' hv=>by rw[Array.getElem?_eq_none hi]at hv;cases hv) (fun _=>q)
structure Apart (z TI TO i1 i2 l1 l2:Addr):Prop where
 z:TI≠z/\TO≠z/\i1≠z/\i2≠z/\l1≠z/\l2≠z
 o:i1≠TO/\i2≠TO/\l1≠TO/\l2≠TO
 i:i1≠i2/\l2≠i1/\l1≠i2
theorem WG {z TI TO i1 i2 l1 l2:Addr}{n1 n2 i:Nat}{v1 v2:Nat->Value->Prop}{st1 st2:Nat->Heap->Prop}{x0 y0:Value}{Q:Option Value->Shared->Prop}(D:Apart z TI TO i1 i2 l1 l2)(hz:IsZip s.heap z TI TO .none)(hTI:IsPair s.heap TI (.ref i1) (.ref i2))(hTO:IsPair s.heap TO x0 y0)
  (S1:Src prog w A.in1 i1 l1 n1 v1 st1)(S2:Src prog w A.in1 i2 l2 n2 v2 st2)(h1:st1 i s.heap)(h2:st2 i s.heap)
  (more:i<n1->i<n2->∀x y h',v1 i x->v2 i y->IsZip h' z TI TO (rawInt s.heap.objs.size)->IsPair h' TO x y->st1 (i+1) h'->st2 (i+1) h'->IsPair h' s.heap.objs.size x y->
   (∀c o,c≠z->c≠TO->c≠i1->c≠i2->s.heap.get? c=some o->h'.get? c=some o)->Q (some (.ref s.heap.objs.size)) {s with heap:=h'})
  (done:(n1<=i\/n2<=i)->∀h',(∀c o,c≠z->c≠TO->c≠i1->c≠i2->s.heap.get? c=some o->h'.get? c=some o)->Q none {s with heap:=h'}):wpAny (model prog w) A (pyNext (.ref z)) Q E s:=by
 obtain⟨dz1,dz2,dz3,dz4,dz5,dz6⟩:=D.z
 obtain⟨do1,do2,do3,do4⟩:=D.o
 obtain⟨di1,di2,di3⟩:=D.i
 have ty:s.TypeIs (.ref z) "zip":=⟨_,hz,rfl⟩
 have stop:∀(h':Heap) (e:Addr) (R:Option Value->Shared->Prop),(∃o,h'.get? e=some o/\o.cls=.type "StopIteration")->R none {s with heap:=h'}->
   wpAny (model prog w) A (do if <-isInstance (.ref e) (.type "StopIteration")then pure none else throw (.ref e)) R E {s with heap:=h'}:=fun h' e R ⟨o,ho,hc⟩ q=>wpAny_bind (wpAny_isInstance (T:="StopIteration") (b:=true) ⟨o,ho,hc⟩ isSubtype_stop (wpAny_pure q))
 unfold pyNext
 refine wpAny_bind (wpAny_attempt (wpAny_callSpecial?_slot (name:=Str.ofString "__next__") ty F.slot_zip_next (wpAny_call_entry F.slot_zip_next ty F.entry_zip_next ?_ (F.args_zip_next_1 _))))
 unfold Builtin.«zip.__next__» Builtin.SmallTypes.ownedTupleIsFree
 refine wpAny_bind (wpAny_pure (wpAny_bind (wpAny_field (i:=2) hz rfl (x:=.bool false) rfl (wpAny_bind (wpAny_field (i:=3) hz rfl (x:=.ref TI) rfl (wpAny_bind (wpAny_seqItems hTI rfl (wpAny_bind (wpAny_bind (wpAny_field (i:=0) hz rfl (x:=.none) rfl (wpAny_pure ?_)))))))))))
 rw[if_pos rfl]
 refine wpAny_bind (wpAny_rule (wpAny_bind (wpAny_field (i:=4) hz rfl (x:=.ref TO) rfl (wpAny_bind (wpAny_setField_rec hz (by show 0<5;decide) fun g1 e1 k1=>?_)))))
 have a1:st1 i g1:=S1.keep _ _ _ h1 (fun o e=>(k1.2 _ dz3).trans e) fun o e=>(k1.2 _ dz5).trans e
 have b1:st2 i g1:=S2.keep _ _ _ h2 (fun o e=>(k1.2 _ dz4).trans e) fun o e=>(k1.2 _ dz6).trans e
 have z1:IsZip g1 z TI TO .ellipsis:=e1
 refine wpAny_bind ?_
 simp only[List.zipIdx_cons,List.zipIdx_nil,List.forIn_cons,List.forIn_nil]
 refine wpAny_bind (wpAny_bind (wpAny_onRaise ?_))
 show wpAny _ _ (Builtin.SmallTypes.nextOf (.ref i1)>>=_) _ _ _
 by_cases hi1:i<n1
 ·refine wpAny_bind (S1.item i {s with heap:=g1} _ _ a1 hi1 fun x g2 vx a2 k2=>wpAny_pure ?_)
  have k2:Heap.SameBut i1 g1 g2:=k2
  have t2:IsPair g2 TO x0 y0:=(k2.2 _ (Ne.symm do1)).trans ((k1.2 _ dz2).trans hTO)
  refine wpAny_bind (wpAny_seqItems t2 rfl (wpAny_bind (wpAny_updateSeq_pair t2 fun g3 t3 k3=>wpAny_bind (wpAny_letGo (wpAny_pure ?_)))))
  have t3:IsPair g3 TO x y0:=t3
  have k3:Heap.SameBut TO g2 g3:=k3
  have b3:st2 i g3:=S2.keep _ _ _ b1 (fun o e=>(k3.2 _ do2).trans ((k2.2 _ (Ne.symm di1)).trans e)) fun o e=>(k3.2 _ do4).trans ((k2.2 _ di2).trans e)
  have a3:st1 (i+1) g3:=S1.keep _ _ _ a2 (fun o e=>(k3.2 _ do1).trans e) fun o e=>(k3.2 _ do3).trans e
  have z3:IsZip g3 z TI TO .ellipsis:=(k3.2 _ (Ne.symm dz2)).trans ((k2.2 _ (Ne.symm dz3)).trans z1)
  refine wpAny_bind (wpAny_bind (wpAny_onRaise ?_))
  show wpAny _ _ (Builtin.SmallTypes.nextOf (.ref i2)>>=_) _ _ _
  by_cases hi2:i<n2
  ·refine wpAny_bind (S2.item i {s with heap:=g3} _ _ b3 hi2 fun y g4 vy b4 k4=>wpAny_pure ?_)
   have k4:Heap.SameBut i2 g3 g4:=k4
   have t4:IsPair g4 TO x y0:=(k4.2 _ (Ne.symm do2)).trans t3
   refine wpAny_bind (wpAny_seqItems t4 rfl (wpAny_bind (wpAny_updateSeq_pair t4 fun g5 t5 k5=>wpAny_bind (wpAny_letGo (wpAny_pure (wpAny_pure ?_))))))
   have t5:IsPair g5 TO x y:=t5
   have k5:Heap.SameBut TO g4 g5:=k5
   have z5:IsZip g5 z TI TO .ellipsis:=(k5.2 _ (Ne.symm dz2)).trans ((k4.2 _ (Ne.symm dz4)).trans z3)
   have a5:st1 (i+1) g5:=S1.keep _ _ _ a3 (fun o e=>(k5.2 _ do1).trans ((k4.2 _ di1).trans e)) fun o e=>(k5.2 _ do3).trans ((k4.2 _ di3).trans e)
   have b5:st2 (i+1) g5:=S2.keep _ _ _ b4 (fun o e=>(k5.2 _ do2).trans e) fun o e=>(k5.2 _ do4).trans e
   have sz:g5.objs.size=s.heap.objs.size:=by rw[k5.1,k4.1,k3.1,k2.1,k1.1]
   refine wpAny_bind (wpAny_seqItems t5 rfl (wpAny_bind (wpAny_newTuple (wpAny_bind ?_))))
   unfold Builtin.SmallTypes.ownedTupleHandOut
   refine wpAny_bind (wpAny_setField_rec (Heap.get?_push_of_some _ z5) (by show 0<5;decide) fun g7 e7 k7=>wpAny_setField_rec e7 (by show 1<5;decide) fun g8 e8 k8=>wpAny_pure ⟨_,rfl,wpAny_pure ?_⟩)
   have all:∀c,c≠z->g8.get? c=(g5.push {cls:=.type "tuple",data:=.seq #[x,y]}).get? c:=fun c hc=>(k8.2 c hc).trans (k7.2 c hc)
   have up:∀c o,c≠z->g5.get? c=some o->g8.get? c=some o:=fun c o hc e=>(all c hc).trans (Heap.get?_push_of_some _ e)
   have lz:z<g5.objs.size:=Heap.lt_size z5
   have e8:IsZip g8 z TI TO (rawInt g5.objs.size):=e8
   have p8:IsPair g8 g5.objs.size x y:=(all _ (Nat.ne_of_gt lz)).trans (Heap.get?_push_size _ rfl)
   rw[sz]at e8 p8
   show Q (some (.ref g5.objs.size)) {s with heap:=g8}
   rw[sz]
   exact more hi1 hi2 x y g8 vx vy e8 (up _ _ dz2 t5) (S1.keep _ _ _ a5 (fun o e=>up _ _ dz3 e) fun o e=>up _ _ dz5 e) (S2.keep _ _ _ b5 (fun o e=>up _ _ dz4 e) fun o e=>up _ _ dz6 e) p8
    fun c o c1 c2 c3 c4 e=>up c o c1 ((k5.2 c c2).trans ((k4.2 c c4).trans ((k3.2 c c2).trans ((k2.2 c c3).trans ((k1.2 c c1).trans e)))))
  ·refine wpAny_bind (S2.done i {s with heap:=g3} _ _ b3 (by omega) fun g4 e k4 he=>?_)
   have k4:Heap.ExtBut i2 g3 g4:=k4
   have z4:IsZip g4 z TI TO .ellipsis:=k4 _ _ (Ne.symm dz4) z3
   obtain⟨oe,hoe,hce⟩:=he
   have nez:e≠z:=fun q=>by rw[q,z4]at hoe;cases hoe;exact absurd (show Value.type "zip"=Value.type "StopIteration" from hce) (by decide)
   refine wpAny_setField_rec z4 (by show 0<5;decide) fun g5 _ k5=>stop g5 e _ ⟨oe,(k5.2 _ nez).trans hoe,hce⟩ (done (.inr (by omega)) g5 fun c o c1 c2 c3 c4 q=>?_)
   exact(k5.2 c c1).trans (k4 c o c4 ((k3.2 c c2).trans ((k2.2 c c3).trans ((k1.2 c c1).trans q))))
 ·refine wpAny_bind (S1.done i {s with heap:=g1} _ _ a1 (by omega) fun g2 e k2 he=>?_)
  have k2:Heap.ExtBut i1 g1 g2:=k2
  have z2:IsZip g2 z TI TO .ellipsis:=k2 _ _ (Ne.symm dz3) z1
  obtain⟨oe,hoe,hce⟩:=he
  have nez:e≠z:=fun q=>by rw[q,z2]at hoe;cases hoe;exact absurd (show Value.type "zip"=Value.type "StopIteration" from hce) (by decide)
  refine wpAny_setField_rec z2 (by show 0<5;decide) fun g3 _ k3=>stop g3 e _ ⟨oe,(k3.2 _ nez).trans hoe,hce⟩ (done (.inl (by omega)) g3 fun c o c1 c2 c3 c4 q=>?_)
  exact(k3.2 c c1).trans (k2 c o c3 ((k1.2 c c1).trans q))
end
def zO (t l n:Addr):List Obj:=[{cls:=.type "tuple_iterator",data:=.fields #[.ref t,.int 0 0]},{cls:=.type "list_iterator",data:=.fields #[.ref l,.int 0 0]},{cls:=.type "tuple",data:=.seq #[.ref n,.ref (n+1)]},{cls:=.type "tuple",data:=.seq #[.none,.none]},
 {cls:=.type "zip",data:=.fields #[.none,.bool false,.bool false,.ref (n+2),.ref (n+3)]}]
def IT (h:Heap)(l:List Obj):Heap:=l.foldl (fun h o=>h.push o) h
theorem bf (t l:Addr)(xs ys:Array Value):Meets (Builtin.«zip.__new__» ⟨[.type "zip",.ref t,.ref l],[]⟩) (fun _ R s=>s.heap.IsTuple t xs/\s.heap.IsList l ys/\R (.ok (.ret (.ref (s.heap.objs.size+4)))) {s with heap:=IT s.heap (zO t l s.heap.objs.size)}):=
 .of_wp fun prog w A R s ⟨ht,hl,h⟩=>by
  obtain⟨hp,g,d,tk,os⟩:=s
  have sub:=sub_zip
  have h1:Heap.IsTuple (Shared.heap ⟨hp,g,d,tk,os⟩) t xs:=ht
  have h2:Heap.IsList (Shared.heap ⟨hp.push {cls:=.type "tuple_iterator",data:=.fields #[.ref t,.int 0 0]},g,d,tk,os⟩) l ys:=Heap.IsList.push hl _
  wp_walk using wpAny_pyIter_tuple h1,wpAny_pyIter_list h2
  refine⟨_,rfl,?_⟩
  simp only[Heap.size_push]at h ⊢
  exact h
theorem NC {h:Heap}{b:Addr}{o:Obj}:∀{l:List Obj}{h:Heap},h.get? b=some o->(IT h l).get? b=some o
 |[],_,e=>e
 |x::l,h,e=>NC (l:=l) (h:=h.push x) (Heap.get?_push_of_some _ e)
section
variable {prog:Program}{w:World}{A:Around}{E:Value->Shared->Prop}{s:Shared}
theorem Zk {t l:Addr}{xs ys:Array Value}{Q:Value->Shared->Prop}(ht:s.heap.IsTuple t xs)(hl:s.heap.IsList l ys)
  (q:∀h',IsZip h' (s.heap.objs.size+4) (s.heap.objs.size+2) (s.heap.objs.size+3) .none->IsPair h' (s.heap.objs.size+2) (.ref s.heap.objs.size) (.ref (s.heap.objs.size+1))->IsPair h' (s.heap.objs.size+3) .none .none->
   h'.IsTupleIter s.heap.objs.size t 0->h'.IsListIter (s.heap.objs.size+1) l 0->(∀c o,s.heap.get? c=some o->h'.get? c=some o)->Q (.ref (s.heap.objs.size+4)) {s with heap:=h'}):
  wpAny (model prog w) A (call (.type "zip") [.ref t,.ref l]) Q E s:=by
 refine callType_new F.called_zip (by decide) (F.typeCall_zip_2 _ _) (F.newCall_zip_2 _ _) (fun obj=>F.args_object_init_3 obj _ _) F.entry_zip_new (bf t l xs ys) ⟨ht,hl,?_⟩
 have at_:∀(h:Heap) (pre:List Obj) (o:Obj) (post:List Obj),o.isFreed=false->(IT h (pre++o::post)).get? (h.objs.size+pre.length)=some o:=fun h pre o post hf=>by
  have e1:IT h (pre++o::post)=IT ((IT h pre).push o) post:=by unfold IT;rw[List.foldl_append,List.foldl_cons]
  have sz:∀(l:List Obj) (h:Heap),(IT h l).objs.size=h.objs.size+l.length:=fun l=>by
   induction l with
   |nil=>intro h;rfl
   |cons x r ih=>intro h;show(IT (h.push x) r).objs.size=_;rw[ih,Heap.size_push,List.length_cons];omega
  rw[e1,<-sz pre h]
  exact NC (h:=h) (Heap.get?_push_size _ hf)
 have g0:=at_ s.heap [] {cls:=.type "tuple_iterator",data:=.fields #[.ref t,.int 0 0]} ((zO t l s.heap.objs.size).drop 1) rfl
 have g1:=at_ s.heap ((zO t l s.heap.objs.size).take 1) {cls:=.type "list_iterator",data:=.fields #[.ref l,.int 0 0]} ((zO t l s.heap.objs.size).drop 2) rfl
 have g2:=at_ s.heap ((zO t l s.heap.objs.size).take 2) {cls:=.type "tuple",data:=.seq #[.ref s.heap.objs.size,.ref (s.heap.objs.size+1)]} ((zO t l s.heap.objs.size).drop 3) rfl
 have g3:=at_ s.heap ((zO t l s.heap.objs.size).take 3) {cls:=.type "tuple",data:=.seq #[.none,.none]} ((zO t l s.heap.objs.size).drop 4) rfl
 have g4:=at_ s.heap ((zO t l s.heap.objs.size).take 4) {cls:=.type "zip",data:=.fields #[.none,.bool false,.bool false,.ref (s.heap.objs.size+2),.ref (s.heap.objs.size+3)]} ((zO t l s.heap.objs.size).drop 5) rfl
 exact⟨⟨_,g4,rfl⟩,q _ g4 g2 g3 ⟨_,g0,rfl,rfl⟩ ⟨_,g1,rfl,rfl⟩ fun c o e=>NC (h:=s.heap) e⟩
end
def bg (K:PySem.W.Frag)(a b:Addr):It:=
 ⟨fun i H=>∃(xs ys:List V) (x y:V),SqT K H a xs/\SqL K H b ys/\xs[i]? =some x/\ys[i]? =some y,
  fun i H v H'=>∃T x y,v=.ref T/\H T=none/\H'=upd H T (.tup [x,y])/\(∀xs,SqT K H a xs->xs[i]? =some x)/\∀ys,SqL K H b ys->ys[i]? =some y,
  fun i H=>∃xs ys:List V,SqT K H a xs/\SqL K H b ys/\(xs.length<=i\/ys.length<=i)⟩
def tnZ (z TI TO i1 i2 a b:Addr)(i:Nat)(h:Heap):Prop:=IsZip h z TI TO .none/\IsPair h TI (.ref i1) (.ref i2)/\(∃x y,IsPair h TO x y)/\h.IsTupleIter i1 a i/\h.IsListIter i2 b i
theorem Zl {P:Program}{w:World}{K:PySem.W.Frag}{elts:List Expr}{kk:Nat}{tpos:Pos}{a b z TI TO i1 i2:Addr}(D:Apart z TI TO i1 i2 a b)(D2:a≠i1/\b≠i2/\TI≠TO/\TI≠i1/\TI≠i2):
  Turn P w K (.Tuple elts kk tpos) (bg K a b) [z,TI,TO,i1,i2] z (tnZ z TI TO i1 i2 a b) where
 mem:=by simp
 obj:=fun i h ⟨hz,hTI,⟨x,y,hTO⟩,⟨o1,e1,_,d1⟩,⟨o2,e2,_,d2⟩⟩ c hc=>by
  have e':c=z\/c=TI\/c=TO\/c=i1\/c=i2:=by simpa using hc
  rcases e' with q|q|q|q|q
  ·rw[q];exact⟨_,hz,fun v q=>nomatch q⟩
  ·rw[q];exact⟨_,hTI,fun v q=>nomatch q⟩
  ·rw[q];exact⟨_,hTO,fun v q=>nomatch q⟩
  ·rw[q];exact⟨o1,e1,fun v q=>by rw[d1]at q;cases q⟩
  ·rw[q];exact⟨o2,e2,fun v q=>by rw[d2]at q;cases q⟩
 keep:=fun i h h' ⟨hz,hTI,⟨x,y,hTO⟩,h1,h2⟩ k=>⟨k z (by simp) _ hz,k TI (by simp) _ hTI,⟨x,y,k TO (by simp) _ hTO⟩,h1.at fun o q=>k i1 (by simp) o q,h2.at fun o q=>k i2 (by simp) o q⟩
 item:=by
  intro X hP hw hK hc i pins s σ H E I hf ⟨hz,hTI,⟨x0,y0,hTO⟩,h1,h2⟩ ⟨xs,ys,x,y,hqx,hqy,hx,hy⟩
  subst hP hw hK
  obtain⟨its,rv,p,_⟩:=I.tuple hqx
  obtain⟨its2,rv2,p2,_⟩:=I.list hqy
  obtain⟨u,hu,ru⟩:=rv.get hx
  obtain⟨u2,hu2,ru2⟩:=rv2.get hy
  have hzl:z<s.heap.objs.size:=Heap.lt_size hz
  have hd:=I.ok.hd hc
  have n1:i<its.toArray.size:=by simpa using(List.getElem?_eq_some_iff.mp hu).1
  have n2:i<its2.toArray.size:=by simpa using(List.getElem?_eq_some_iff.mp hu2).1
  refine WG D hz hTI hTO (Yp (items:=its.toArray) (by exact hd) D2.1) (src_list (items:=its2.toArray) (by exact hd) D2.2.1) ⟨h1,p⟩ ⟨h2,p2.isList⟩ (fun _ _ ux uy h' vx vy z' TO' s1' s2' hT hk=>?_) (fun q=>absurd q (by omega))
  have ex:u=ux:=by
   have vx:its.toArray[i]? =some ux:=vx
   rw[List.getElem?_toArray,hu]at vx
   exact Option.some.inj vx
  have ey:u2=uy:=by
   have vy:its2.toArray[i]? =some uy:=vy
   rw[List.getElem?_toArray,hu2]at vy
   exact Option.some.inj vy
  subst ex ey
  refine⟨_,rfl,wpAny_letOwnedTupleGo_zip (s:={s with heap:=h'}) z' fun h'' z'' sb=>?_⟩
  have hT2:h''.get? s.heap.objs.size=some {cls:=.type "tuple",data:=.seq #[u,u2]}:=(sb.2 _ (Nat.ne_of_gt hzl)).trans hT
  have new:Bk X.prog X.w (upd H s.heap.objs.size (.tup [x,y])) h'' s.heap.objs.size (.tup [x,y]):=⟨by show 2<=sizeLine;decide,[u,u2],.cons ru (.cons ru2 .nil),⟨_,hT2,rfl,_,rfl⟩⟩
  have I1:Inv X pins σ (upd H s.heap.objs.size (.tup [x,y])) {s with heap:=h''}:=
   I.Mv (t':=s.toks) (ch:=[z,TI,TO,i1,i2]) (fun c o hb q=>(sb.2 c (fun q'=>hb (by simp[q']))).trans (hk c o (fun q'=>hb (by simp[q'])) (fun q'=>hb (by simp[q'])) (fun q'=>hb (by simp[q'])) (fun q'=>hb (by simp[q'])) q)) hf (Nat.le_refl _) new
  refine⟨.ref s.heap.objs.size,_,I1,rfl,⟨_,x,y,rfl,I.hok.fresh (Nat.le_refl _),rfl,fun l hl=>by rw[I.R6 hl hqx];exact hx,fun l hl=>by rw[I.O3 hl hqy];exact hy⟩,⟨z'',?_,⟨u,u2,?_⟩,?_,?_⟩,fun c hcm=>?_⟩
  ·exact(sb.2 _ D.z.1).trans (hk _ _ D.z.1 D2.2.2.1 D2.2.2.2.1 D2.2.2.2.2 hTI)
  ·exact(sb.2 _ D.z.2.1).trans TO'
  ·exact s1'.1.at fun o q=>(sb.2 _ D.z.2.2.1).trans q
  ·exact s2'.1.at fun o q=>(sb.2 _ D.z.2.2.2.1).trans q
  ·have hlt:c<s.heap.objs.size:=by
    have e':c=z\/c=TI\/c=TO\/c=i1\/c=i2:=by simpa using hcm
    rcases e' with q|q|q|q|q
    ·rw[q];exact hzl
    ·rw[q];exact Heap.lt_size hTI
    ·rw[q];exact Heap.lt_size hTO
    ·rw[q];obtain⟨_,e1,_⟩:=h1;exact Heap.lt_size e1
    ·rw[q];obtain⟨_,e2,_⟩:=h2;exact Heap.lt_size e2
   rw[AI (Nat.ne_of_lt hlt)]
   exact(hf c hcm).1
 done:=by
  intro X hP hw hK hc i pins s σ H E I hf ⟨hz,hTI,⟨x0,y0,hTO⟩,h1,h2⟩ ⟨xs,ys,hqx,hqy,hend⟩
  subst hP hw hK
  obtain⟨its,rv,p,_⟩:=I.tuple hqx
  obtain⟨its2,rv2,p2,_⟩:=I.list hqy
  have l1:=rv.length
  have l2:=rv2.length
  have hd:=I.ok.hd hc
  refine WG D hz hTI hTO (Yp (items:=its.toArray) (by exact hd) D2.1) (src_list (items:=its2.toArray) (by exact hd) D2.2.1) ⟨h1,p⟩ ⟨h2,p2.isList⟩ (fun q1 q2=>?_) (fun _ h' hk=>⟨rfl,I.dc (t':=s.toks) (ch:=[z,TI,TO,i1,i2]) (fun c o hb q=>hk c o (fun q'=>hb (by simp[q'])) (fun q'=>hb (by simp[q'])) (fun q'=>hb (by simp[q'])) (fun q'=>hb (by simp[q'])) q) hf⟩)
  simp only[List.size_toArray]at q1 q2
  exact absurd hend (by omega)
 self:=fun A i s Q E st h=>wpAny_pyIter_zip st.1 h
theorem bh {N a b:Nat}(la:a<N)(lb:b<N):Apart (N+4) (N+2) (N+3) N (N+1) a b/\(a≠N/\b≠N+1/\N+2≠N+3/\N+2≠N/\N+2≠N+1):=by
 refine⟨⟨⟨?_,?_,?_,?_,?_,?_⟩,⟨?_,?_,?_,?_⟩,⟨?_,?_,?_⟩⟩,?_,?_,?_,?_,?_⟩
 all_goals
  refine(fun z=>?_:_->False)
  have z:(_:Nat)=_:=z
  omega
def lp (K:PySem.W.Frag)(ta:TA):TI:=fun σ H R=>ta σ H fun vs H1=>∃a b xs ys,vs=[.ref a,.ref b]/\SqT K H1 a xs/\SqL K H1 b ys/\R (bg K a b) H1
theorem eT {X:Cx}{e e2:Expr}{ta:TA}{p pos tpos:Pos}{elts:List Expr}{kk:Nat}(hg:Gl X "zip")(hm:X.mg "zip"=none)(ha:PA X [e,e2] ta)
  (hs:starEach [e,e2] X.env=(false,eval e X.env)::starEach [e2] X.env:=by rfl)(hpl:(backTo pos (starEach [e2] X.env)).any (·.1)=false:=by rfl):PI X (.Tuple elts kk tpos) (.Call (.Name "zip" p) [e,e2] [] pos) (lp X.K ta):=by
 intro pins s σ H R I h
 refine Call_ (JQ I hg hm ZN (PyProof.Rows.callWith_type1 (thn (ha pos pins s σ H _ I h) fun us s1 ⟨vs,H1,I1,r1,q1⟩=>?_) hs hpl))
 obtain⟨a,b,xs,ys,ex,hqx,hqy,q⟩:=q1
 subst ex
 cases r1 with
 |cons r rr=>
  cases rr with
  |cons r' rr=>
   cases rr
   cases r
   cases r'
   obtain⟨its,rv,p1,_⟩:=I1.tuple hqx
   obtain⟨its2,rv2,p2,_⟩:=I1.list hqy
   have la:a<s1.heap.objs.size:=by obtain⟨_,e,_⟩:=p1;exact Heap.lt_size e
   have lb:b<s1.heap.objs.size:=p2.lt
   refine Zk p1 p2.isList fun h' hz hTI hTO h1 h2 hk=>wpAny_pyIter_zip hz ?_
   have I2:Inv X pins σ H1 {s1 with heap:=h'}:=I1.kept (t':=s1.toks) hk
   obtain⟨ap,ap2⟩:=bh (N:=s1.heap.objs.size) (a:=a) (b:=b) la lb
   refine⟨s1.heap.objs.size+4,[s1.heap.objs.size+4,s1.heap.objs.size+2,s1.heap.objs.size+3,s1.heap.objs.size,s1.heap.objs.size+1],_,_,H1,rfl,I2,Zl ap ap2,⟨hz,hTI,⟨_,_,hTO⟩,h1,h2⟩,fun c hcm=>?_,q⟩
   have e':c=s1.heap.objs.size+4\/c=s1.heap.objs.size+2\/c=s1.heap.objs.size+3\/c=s1.heap.objs.size\/c=s1.heap.objs.size+1:=by simpa using hcm
   have hle:s1.heap.objs.size<=c:=by
    rcases e' with z|z|z|z|z
    ·rw[z];exact Nat.le_add_right _ _
    ·rw[z];exact Nat.le_add_right _ _
    ·rw[z];exact Nat.le_add_right _ _
    ·rw[z];exact Nat.le_refl _
    ·rw[z];exact Nat.le_add_right _ _
   exact I1.TZ hle (I1.hok.fresh hle)
theorem bj {K:PySem.W.Frag}{a b:Addr}{xs ys:List V}{g:TG}{tb:TS}{D:Ends}{σ:St}{H:Hp}(Pv:Nat->St->Hp->Prop)(h0:Pv 0 σ H)(hl:xs.length=ys.length)(ha:∀i σ H,i<=xs.length->Pv i σ H->SqT K H a xs/\SqL K H b ys)
  (hs:∀i x y σ H T,xs[i]? =some x->ys[i]? =some y->Pv i σ H->H T=none->g (.ref T) σ (upd H T (.tup [x,y])) fun σ2 H2=>tb {D with nx:=Pv (i+1),ct:=Pv (i+1),bk:=D.nx} σ2 H2)(hd:∀σ H,Pv xs.length σ H->D.nx σ H):
  ∃W:Nat->Nat->St->Hp->Prop,(∃m,W 0 m σ H)/\∀i m σ H,W i m σ H->
   ((bg K a b).stop i H/\D.nx σ H)\/((bg K a b).go i H/\∃N:St->Hp->Prop,(∀σ' H',N σ' H'->∃m',m'<m/\W (i+1) m' σ' H')/\∀x H',(bg K a b).yld i H x H'->g x σ H' fun σ2 H2=>tb {D with nx:=N,ct:=N,bk:=D.nx} σ2 H2):=by
 refine⟨fun i m σ H=>m=xs.length - i/\i<=xs.length/\Pv i σ H,⟨xs.length,by simp,Nat.zero_le _,h0⟩,?_⟩
 rintro i m σ H ⟨rfl,hi,p⟩
 obtain⟨q1,q2⟩:=ha i σ H hi p
 by_cases hlt:i<xs.length
 ·have hlt2:i<ys.length:=by omega
  refine .inr ⟨⟨xs,ys,xs[i],ys[i],q1,q2,List.getElem?_eq_getElem hlt,List.getElem?_eq_getElem hlt2⟩,Pv (i+1),fun σ' H' p'=>⟨xs.length - (i+1),by omega,rfl,hlt,p'⟩,fun v H' y=>?_⟩
  obtain⟨T,x,y,e,hT,e',y1,y2⟩:=y
  subst e e'
  exact hs i x y σ H T (y1 xs q1) (y2 ys q2) p hT
 ·have e:i=xs.length:=by omega
  subst e
  exact .inl ⟨⟨xs,ys,q1,q2,.inl (Nat.le_refl _)⟩,hd σ H p⟩
section
variable {M:Model}{A:Around}{E:Value->Shared->Prop}{s:Shared}{base:Heap}{l:List Env}{e:Addr}{cls a0 fl:Value}
theorem XN (hkb:base.StaysIn s.heap)(hl:s.heap.FunFrames base l)(ht:s.heap.TracedAtW base e cls a0 fl)
  (h:∀h' fl',base.StaysIn h'->h'.FunFrames base l->h'.TracedAtW base e cls a0 fl'->s.heap.UpToSlots h'->Q () {s with heap:=h'}):wpAny M A (setFlight (.ref e) f) Q E s:=by
 obtain⟨oe,vs,T,oT,ts,he,hcls,hd,h1,hnT,hTe,hT,hdT,h3⟩:=ht
 have sz:3<ts.size:=(Array.getElem?_eq_some_iff.mp h3).1
 unfold setFlight
 refine wpAny_bind (wpAny_field he hd h1 ?_)
 rw[if_pos (show(Value.ref T != Value.none)=true from by simp)]
 have oth:∀b,b≠T->(s.heap.update T (Obj.mapFields (·.setIfInBounds 3 (f.elim Value.none fun f=>rawInt f)))).get? b=s.heap.get? b:=fun b hb=>Heap.get?_update_other _ _ (Ne.symm hb)
 have rec_:∀b o,s.heap.get? b=some o->(∀vs,o.data≠.fields vs)->b≠T:=fun b o hb hnf q=>by
  rw[q,hT]at hb
  cases hb
  exact hnf ts hdT
 refine wpAny_setField hT hdT sz (h _ (f.elim Value.none fun f=>rawInt f) (fun b o hbo=>(oth b fun q=>by rw[q,hnT]at hbo;cases hbo).trans (hkb b o hbo)) (hl.of_keeps fun b o hb hnf=>⟨o,(oth b (rec_ b o hb hnf)).trans hb,rfl⟩) ?_ fun b o hb hnf=>⟨o.slots,(oth b (rec_ b o hb hnf)).trans hb⟩)
 exact⟨oe,vs,T,_,_,(oth e (Ne.symm hTe)).trans he,hcls,hd,h1,hnT,hTe,Heap.get?_update_self _ hT (Obj.isFreed_of_fields (Obj.data_mapFields hdT _)),Obj.data_mapFields hdT _,by simp[sz]⟩
theorem XO (hkb:base.StaysIn s.heap)(hl:s.heap.FunFrames base l)(ht:s.heap.TracedAtW base e cls a0 fl)
  (h:∀h' fl',base.StaysIn h'->h'.FunFrames base l->h'.TracedAtW base e cls a0 fl'->s.heap.UpToSlots h'->E (.ref e) {s with heap:=h'}):wpAny M A (PySem.passOn what (.ref e) env:Sem α) Q E s:=by
 have ht':=ht
 obtain⟨oe,vs,T,oT,ts,he,hcls,hd,h1,hnT,hTe,hT,hdT,h3⟩:=ht
 unfold PySem.passOn
 refine wpAny_bind (wpAny_field he hd h1 ?_)
 rw[if_neg (show ¬((Value.ref T == Value.none)=true)from nofun)]
 exact wpAny_bind (XN hkb hl ht' fun h' fl' x1 x2 x3 x4=>wpAny_throw (h h' fl' x1 x2 x3 x4))
theorem ZP (hfr:A.frames=some (env::outer))(hf:env.frame=some L)(hkb:base.StaysIn s.heap)(hen:base.get? e=none)(hl:s.heap.FunFrames base (env::outer))(ht:s.heap.TracedAtW base e cls a0 fl)
  (hQ:∀h',Heap.FlyingW base outer e cls a0 h'->s.heap.UpToSlots h'->Q () {s with heap:=h'}):wpAny M A (leaving env (.ref e)) Q E s:=by
 by_cases hfl:fl=rawInt L
 ·subst hfl
  unfold leaving
  refine wpAny_bind (wpAny_noteFrame_againW hf ht (wpAny_setFlight_noneW hkb hl ht fun h' k1 k2 k3 k4=>?_))
  obtain⟨_,_,k2'⟩:=k2
  exact hQ h' ⟨k1,hen,k2',k3⟩ fun b o hb hn=>⟨o.slots,k4 b o hb hn⟩
 ·obtain⟨oe,vs,T,oT,ts,he,⟨hcls,h0⟩,hd,h1,hnT,hTe,hT,hdT,h3⟩:=ht
  subst hcls
  unfold leaving noteFrame
  simp only[hf]
  refine wpAny_bind (wpAny_bind (wpAny_field he hd h1 ?_))
  rw[if_pos (show(Value.ref T != Value.none)=true from by simp)]
  refine wpAny_bind (wpAny_field hT hdT h3 ?_)
  rw[if_neg (show ¬((fl == rawInt L)=true)from fun z=>hfl (eq_of_beq z))]
  refine wpAny_bind (wpAny_setField hT hdT (Array.getElem?_eq_some_iff.mp h3).1 ?_)
  have oth:∀b,b≠T->(s.heap.update T (Obj.mapFields (·.setIfInBounds 3 Value.none))).get? b=s.heap.get? b:=fun b hb=>Heap.get?_update_other _ _ (Ne.symm hb)
  have rec_:∀b o,s.heap.get? b=some o->(∀vs,o.data≠.fields vs)->b≠T:=fun b o hb hnf q=>by
   rw[q,hT]at hb
   cases hb
   exact hnf ts hdT
  refine wpAny_newEntryW hfr (hl.of_keeps fun b o hb hnf=>⟨o,(oth b (rec_ b o hb hnf)).trans hb,rfl⟩) hf ((oth e (Ne.symm hTe)).trans he) (fun b o hbo=>(oth b fun q=>by rw[q,hnT]at hbo;cases hbo).trans (hkb b o hbo)) hen hd
   (Array.getElem?_eq_some_iff.mp h1).1 h0 fun h' ⟨x1,⟨_,_,x2⟩,x3,x4⟩=>hQ h' ⟨x1,hen,x2,x3⟩ fun b o hb hnf=>x4 b o ((oth b (rec_ b o hb hnf)).trans hb) hnf
end
theorem NY {base base' h:Heap}(m:∀b o,base'.get? b=some o->base.get? b=some o):∀{l:List Env},h.FunFrames base l->h.FunFrames base' l
 |[],_=>trivial
 |_::_,⟨hk,⟨L,o,hf,hn,ho,hd⟩,hr⟩=>⟨hk,⟨L,o,hf,(by cases q:base'.get? L with|none=>rfl|some o=>rw[m _ _ q]at hn;cases hn),ho,hd⟩,NY m hr⟩
theorem Ve {base base' h:Heap}{e:Addr}{cls a0 fl:Value}(m:∀b o,base'.get? b=some o->base.get? b=some o)(t:h.TracedAtW base e cls a0 fl):h.TracedAtW base' e cls a0 fl:=by
 obtain⟨oe,vs,T,oT,ts,he,hcls,hd,h1,hnT,r⟩:=t
 exact⟨oe,vs,T,oT,ts,he,hcls,hd,h1,(by cases q:base'.get? T with|none=>rfl|some o=>rw[m _ _ q]at hnT;cases hnT),r⟩
theorem NZ {base h h':Heap}:∀{l:List Env},h.FunFrames base l->(∀b∈frs l,h'.get? b=h.get? b)->h'.FunFrames base l
 |[],_,_=>trivial
 |env::l,⟨hk,⟨L,o,hf,hn,ho,hd⟩,hr⟩,k=>⟨hk,⟨L,o,hf,hn,(k L (List.mem_filterMap.mpr ⟨env,.head _,hf⟩)).trans ho,hd⟩,NZ hr fun b hb=>k b (by
   obtain⟨e,he,hf⟩:=List.mem_filterMap.mp hb
   exact List.mem_filterMap.mpr ⟨e,.tail _ he,hf⟩)⟩
abbrev Cx.Ts (X:Cx)(s:Shared)(H:Hp)(scope:Scope)(cenv:Env)(fp:List Addr)(EX:Value->Shared->Prop):Cx:={X.blk s H scope cenv fp with xe:=EX}
section
variable {P:Program}{w:World}{K:PySem.W.Frag}{mg:Str->Option Value}{base:Heap}{N:List Str}{qual:Str}{scope:Scope}{f:Addr}{cdv:Value}{A:Around}{outer:List Env}{s:Shared}{H:Hp}{E E':XK}
theorem XQ {pins:List (Addr×Obj)}{σ:St}{H3:Hp}{s3:Shared}{scope2:Scope}{cl:List (Str×Addr)}{fp:List Addr}{use:Option (Value->Sem Unit)}{Qf:Value->Shared->Prop}{acc:Value}{X:Cx}
  (hX:X=Fp (CXR P w) P w K mg base N qual scope f cdv A outer s H E)(hnc:∀x,X.env.cells.lookup x=none)(himp:∀c d H,E' c d H->E c d H)(I3:Inv X pins σ H3 s3)(f3:∀b∈fp,Ki X pins H3 b/\b<s3.heap.objs.size):
  Passes (CXR P w) (X.Ts s3 H3 scope2 (compEnvC scope2 cl s3.heap.objs.size X.env) fp (notedBy (model P w) X.A (compEnvC scope2 cl s3.heap.objs.size X.env) fun e s'=>compPost (model P w) X.A X.xe use Qf acc s3.heap.objs.size (.error e) s')) E':=by
 subst hX
 intro pins9 σ9 H9 s9 e s' I9 h
 obtain⟨Cx,ea,H',B,rfl,F,he⟩:=h
 obtain⟨a0,fl⟩:=F.fly
 have I9':Inv (Fp (CXR P w) P w K mg base N qual scope f cdv A outer s H E) pins σ H9 s9:=I3.VA (ch:=fp) I9.os I9.base I9.hok I9.bare fun b hb=>⟨(f3 b hb).1.2.2.2.1,(f3 b hb).1.2.1,(f3 b hb).1.2.2.2.2.1,(f3 b hb).1.2.2.2.2.2⟩
 have nC9:H9 s3.heap.objs.size=none:=I9.free
 have nfs:s3.heap.objs.size∉frs (Fp (CXR P w) P w K mg base N qual scope f cdv A outer s H E).stack:=fun hb=>by
  obtain⟨_,o,ho,_⟩:=I3.stack.mem hb
  exact absurd (Heap.lt_size ho) (Nat.lt_irrefl _)
 obtain⟨m,⟨oC,es,ep,hC,hCd,hCr⟩,_⟩:=I9.loc
 have hC:s9.heap.get? s3.heap.objs.size=some oC:=hC
 have hC':s'.heap.get? s3.heap.objs.size=some oC:=F.un.keep _ _ hC nC9 nfs (by simp)
 have nC':H' s3.heap.objs.size=none:=F.un.free _ _ hC nC9 (by simp)
 show wpAny _ _ (noteFrame (.ref ea) (Fp (CXR P w) P w K mg base N qual scope f cdv A outer s H E).env) _ _ s'
 refine wpAny_looks_onW I9'.ok.frames rfl fl fun h4 x up4=>?_
 obtain⟨x1,x2,x3,x4⟩:=x
 have I4:=I9'.X3 hnc rfl F x1 up4
 refine⟨m,up4.ns ⟨oC,es,ep,hC',hCd,hCr⟩,fun h5 sb cenv hcv=>?_⟩
 have I5:Inv (Fp (CXR P w) P w K mg base N qual scope f cdv A outer s H E) pins σ H' {s' with heap:=h5}:=by
  obtain⟨g0,g1,g2,g3,g4,g5⟩:=I3.TZ (Nat.le_refl _) nC'
  exact I4.turned (t':=s'.toks) (fun b o hb e=>(sb.2 b hb).trans e) g0 g1 g3 g4 g5
 have less:∀b o,(PySem.W.hideAll B [s3.heap.objs.size]).get? b=some o->B.get? b=some o:=fun b o e=>PySem.W.of_hideAll _ e
 have neC:∀b o,(PySem.W.hideAll B [s3.heap.objs.size]).get? b=some o->b≠s3.heap.objs.size:=fun b o e z=>by
  rw[PySem.W.hideAll_none _ (show b∈[s3.heap.objs.size]by rw[z];simp)]at e
  cases e
 have st5:(PySem.W.hideAll B [s3.heap.objs.size]).StaysIn h5:=fun b o e=>(sb.2 b (neC b o e)).trans (x1 b o (less b o e))
 have fr5:h5.FunFrames (PySem.W.hideAll B [s3.heap.objs.size]) (Fp (CXR P w) P w K mg base N qual scope f cdv A outer s H E).stack:=NY less (NZ x3 fun b hb=>sb.2 b fun z=>nfs (by rw[<-z];exact hb))
 obtain⟨sl,hC4⟩:=up4 _ _ hC' (fun vs z=>by rw[hCd]at z;cases z)
 have tr5:h5.TracedAtW (PySem.W.hideAll B [s3.heap.objs.size]) ea (.ref Cx) a0 (rawInt s.heap.objs.size):=by
  obtain⟨oe,vs,T,oT,ts,he,hcls,hd,h1,hnT,hTe,hT,hdT,h3⟩:=Ve less x4
  have n1:ea≠s3.heap.objs.size:=fun z=>by
   rw[z]at he
   have q:=hC4.symm.trans he
   cases q
   rw[show({oC with slots:=sl}:Obj).data=oC.data from rfl,hCd]at hd
   cases hd
  have n2:T≠s3.heap.objs.size:=fun z=>by
   rw[z]at hT
   have q:=hC4.symm.trans hT
   cases q
   rw[show({oC with slots:=sl}:Obj).data=oC.data from rfl,hCd]at hdT
   cases hdT
  exact⟨oe,vs,T,oT,ts,(sb.2 _ n1).trans he,hcls,hd,h1,hnT,hTe,(sb.2 _ n2).trans hT,hdT,h3⟩
 have hen:(PySem.W.hideAll B [s3.heap.objs.size]).get? ea=none:=by
  cases q:(PySem.W.hideAll B [s3.heap.objs.size]).get? ea with
  |none=>rfl
  |some o=>rw[less _ _ q]at x2;cases x2
 refine XO (s:={s' with heap:=h5}) st5 fr5 tr5 fun h6 fl' y1 y2 y3 y4=>?_
 refine ZP (s:={s' with heap:=h6}) I9'.ok.frames rfl y1 hen y2 y3 fun h7 z1 z2=>?_
 refine⟨Cx,ea,H',_,rfl,Tt (s':={s' with heap:=h5}) I5 rfl st5 (fun b o q n=>?_) (fun b o q=>?_) z1 (Heap.UpToSlots.trans y4 z2),himp _ _ _ he⟩
 ·obtain⟨o',r⟩:=I9'.base.there b o q (by show b∉([]:List Addr);simp)
  obtain⟨o'',r2⟩:=F.old b o' r (I9'.Lm q n)
  refine⟨o'',PySem.W.hideAll_get _ r2 fun z=>?_⟩
  have z:b=s3.heap.objs.size:=by simpa using z
  have l1:=Heap.lt_size q
  have l2:s.heap.objs.size<=s3.heap.objs.size:=I3.sz
  rw[z]at l1
  exact absurd l1 (Nat.not_lt.mpr l2)
 ·obtain⟨ob,r⟩:=F.trk b o q
  refine⟨ob,PySem.W.hideAll_get _ r fun z=>?_⟩
  have z:b=s3.heap.objs.size:=by simpa using z
  rw[z,nC']at q
  cases q
end
section
variable {X:Cx}
theorem Inv.Ts (I:Inv (X.blk s0 H0 scope ce fp) pins σ H s)(EX:Value->Shared->Prop):Inv (X.Ts s0 H0 scope ce fp EX) pins σ H s:=
 ⟨⟨I.ok.mod,I.ok.kind,I.ok.glob,I.ok.blt,I.ok.above,I.ok.inj,I.ok.has,I.ok.cab,I.ok.hd,I.ok.frames,I.ok.stk,I.ok.exf,I.ok.bs,I.ok.bsz,I.ok.S6,I.ok.Qm,I.ok.JJ,I.ok.frf⟩,I.os,I.bare,I.base,I.loc,I.cell,I.free,I.Di,I.pin,I.hok,I.len⟩
theorem Inv.jd (I:Inv (X.Ts s0 H0 scope ce fp EX) pins σ H s)(ok:(X.blk s0 H0 scope ce fp).Ok):Inv (X.blk s0 H0 scope ce fp) pins σ H s:=
 ⟨ok,I.os,I.bare,I.base,I.loc,I.cell,I.free,I.Di,I.pin,I.hok,I.len⟩
theorem bq {P:Program}{w:World}{K:PySem.W.Frag}{mg:Str->Option Value}{base:Heap}{N:List Str}{qual:Str}{scope0:Scope}{f:Addr}{cdv:Value}{A:Around}{outer:List Env}{s00:Shared}{H00:Hp}{E E':XK}{pins:List (Addr×Obj)}{s:Shared}{σ:St}{H:Hp}{Q:VK}{elt tg iter:Expr}{ifs:List Expr}{scope:Scope}{own:List (Str×Nat)}{pos pos':Pos}{wi:TI}{g:TG}{tt:TT}{te:TE}{use:Option (Value->Sem Unit)}{Qf:Value->Shared->Prop}
  (hX:X=Fp (CXR P w) P w K mg base N qual scope0 f cdv A outer s00 H00 E)(hnc:∀x,X.env.cells.lookup x=none)(himp:∀c d H,E' c d H->E c d H)(hc:X.calm=true)(hN:X.N.Nodup)(I:Inv X pins σ H s)(hi:PI X tg iter wi)(ok:GI X.N X.env.scope scope own)
  (hg:∀(s:Shared) (H:Hp) (C:Addr) (cl:List (Str×Addr)) (fp:List Addr),PG (X.blk s H scope (compEnvC scope cl C X.env) fp) tg g)(ht:∀(s:Shared) (H:Hp) (C:Addr) (cl:List (Str×Addr)) (fp:List Addr),PTs (X.blk s H scope (compEnvC scope cl C X.env) fp) ifs tt)
  (he:∀(s:Shared) (H:Hp) (C:Addr) (cl:List (Str×Addr)) (fp:List Addr) (EX:Value->Shared->Prop),Passes (CXR P w) (X.Ts s H scope (compEnvC scope cl C X.env) fp EX) E'->PE (X.Ts s H scope (compEnvC scope cl C X.env) fp EX) elt te)(hs:∀x,foldedSetIterable iter X.env x=pure x)
  (h:tLc wi g tt te (own.map (·.2)) σ H Q)
  (hRR:∀D C s' m H',Inv X pins σ H' s'->Q (.ref D) H'->s'.heap.Ns C m->Ki X pins H' C->compPost (model X.prog X.w) X.A X.xe use Qf (.ref D) C (.ok .next) s'):
  wpAny (model X.prog X.w) X.A (comprehension (.ListComp elt [⟨tg,iter,ifs,0⟩] scope pos) scope X.env pos' (newList []) false (eval iter X.env) use) Qf X.xe s:=by
 have eP:X.prog=P:=by rw[hX];rfl
 have ew:X.w=w:=by rw[hX];rfl
 subst eP
 subst ew
 have hfree:∀y∈scope.names,y.2=.free->∃c,X.env.cells.lookup y.1=some c:=fun y hy e=>by
  rcases ok.free y hy e with k|k
  ·exact I.ok.has _ (.inl k)
  ·exact I.ok.has _ (.inr k)
 refine wpAny_comprehension_free (use:=use) rfl hs (O6 hfree) ok.kind (fun y hy e=>by rw[ok.uniq y hy,e])
  (thn (hi pins s σ H _ I h) fun xv s1 hx=>thn hx fun itv s2 h2=>?_)
 obtain⟨it,fp,tn,J,H2,e,I2,T,st2,f2,q⟩:=h2
 subst e
 refine wpAny_newObj_type (NV ?_) (by show 0<=sizeLine;decide)
 generalize hD:s2.heap.objs.size=D
 have hDn:H2 D=none:=I2.hok.fresh (Nat.le_of_eq hD)
 obtain⟨W,⟨m0,w0⟩,turn⟩:=q D hDn
 generalize hs3:({s2 with heap:=s2.heap.push {cls:=.type "list",data:=.seq ([]:List Value).toArray}}:Shared)=s3
 have I3:Inv X pins σ (upd H2 D (.lst [])) s3:=by
  rw[<-hs3]
  refine I2.laid (t':=s2.toks) (fun b o e=>Heap.get?_push_of_some _ e) (Nat.le_of_eq hD) ⟨Nat.zero_le _,[],0,.nil,?_⟩
  rw[<-hD]
  exact Heap.get?_push_size _ rfl
 have h3:s3.heap=s2.heap.push {cls:=.type "list",data:=.seq ([]:List Value).toArray}:=by rw[<-hs3]
 have sz:∀b∈fp,b<s2.heap.objs.size:=fun b hb=>by
  obtain⟨o,e,_⟩:=T.obj _ _ st2 b hb
  exact Heap.lt_size e
 have f3:∀b∈fp,Ki X pins (upd H2 D (.lst [])) b/\b<s3.heap.objs.size:=fun b hb=>by
  have hlt:=sz b hb
  refine⟨⟨?_,(f2 b hb).2⟩,by rw[h3,Heap.size_push];exact Nat.lt_succ_of_lt hlt⟩
  rw[AI (by rw[<-hD];exact Nat.ne_of_lt hlt)]
  exact(f2 b hb).1
 have st3:tn 0 s3.heap:=T.keep _ _ _ st2 fun b _ o e=>by rw[h3];exact Heap.get?_push_of_some _ e
 have I4:=NW I3 ok hN f3
 have pg:=hg s3 (upd H2 D (.lst [])) s3.heap.objs.size (cellsFrom (s3.heap.objs.size+1) scope.names (A1 X.env.cells scope.names [])) fp
 have pt:=ht s3 (upd H2 D (.lst [])) s3.heap.objs.size (cellsFrom (s3.heap.objs.size+1) scope.names (A1 X.env.cells scope.names [])) fp
 have pe:=he s3 (upd H2 D (.lst [])) s3.heap.objs.size (cellsFrom (s3.heap.objs.size+1) scope.names (A1 X.env.cells scope.names [])) fp _ (XQ (use:=use) (Qf:=Qf) (acc:=.ref D) hX hnc himp I3 f3)
 show codeAny _ _ (.compStart (.ListComp elt [⟨tg,iter,ifs,0⟩] scope pos) 0 (.ref it) (.ref D) (compEnvC scope (cellsFrom (s3.heap.objs.size+1) scope.names (A1 X.env.cells scope.names [])) s3.heap.objs.size X.env)) (compPost (model X.prog X.w) X.A X.xe use Qf (.ref D) s3.heap.objs.size) {s3 with heap:=pushCells (s3.heap.push {cls:=.type "dict",data:=.dict #[]}) scope.names}
 have nfp:∀b∈fp,(upd H2 D (.lst [])) b=none:=fun b hb=>(f3 b hb).1.1
 generalize hce:compEnvC scope (cellsFrom (s3.heap.objs.size+1) scope.names (A1 X.env.cells scope.names [])) s3.heap.objs.size X.env=ce at I4 pg pt pe ⊢
 have cL:ce.locals=s3.heap.objs.size:=by subst hce;rfl
 generalize hH3:upd H2 D (.lst [])=H3 at I3 I4 pg pt pe w0 nfp f3
 generalize hs4:({s3 with heap:=pushCells (s3.heap.push {cls:=.type "dict",data:=.dict #[]}) scope.names}:Shared)=s4 at I4 ⊢
 have st4:tn 0 s4.heap:=T.keep _ _ _ st3 fun b _ o e=>by rw[<-hs4];exact pushCells_keeps _ _ _ _ (Heap.get?_push_of_some _ e)
 have stat:∀{σ':St}{H':Hp}{s':Shared},Inv (X.blk s3 H3 scope ce fp) [] σ' H' s'->(∀b∈fp,H' b=none)->∀b∈fp,Ki (X.blk s3 H3 scope ce fp) [] H' b:=fun{σ' H' s'} I' hn b hb=>
  ⟨hn b hb,(I'.ok.exf b hb).1,I'.ok.Qm b hb,.inl hb,fun x c e=>(I'.ok.exf b hb).2 x c e,fun p hp=>absurd (show p∈([]:List (Addr×Obj))++[]from hp) (by simp)⟩
 have loop:codeAny (model X.prog X.w) X.A (.compLoop (.ListComp elt [⟨tg,iter,ifs,0⟩] scope pos) 0 (.ref it) (.ref D) ce) (compPost (model X.prog X.w) X.A X.xe use Qf (.ref D) s3.heap.objs.size) s4:=by
  refine Lx (fun n s'=>∃i H',Inv (X.blk s3 H3 scope ce fp) [] (wipe σ (own.map (·.2))) H' s'/\tn i s'.heap/\(∀b∈fp,H' b=none)/\W i n H') ?_ m0 ⟨0,H3,I4,st4,nfp,w0⟩
  rintro n s5 ⟨i,H5,I5,st5,n5,w5⟩
  rcases turn i n H5 w5 with⟨stop,qq⟩|⟨go,Nx,hNx,step⟩
  ·have td:=T.done (X.blk s3 H3 scope ce fp) rfl rfl rfl hc i [] s5 _ H5 (fun _ _=>False) I5 (stat I5 n5) st5 stop
   refine O7 td fun r s6 ⟨hr,I6⟩=>?_
   subst hr
   have I7:Inv X pins σ H5 s6:=I3.VA (ch:=fp) I6.os I6.base I6.hok I6.bare fun b hb=>⟨(f3 b hb).1.2.2.2.1,(f3 b hb).1.2.1,(f3 b hb).1.2.2.2.2.1,(f3 b hb).1.2.2.2.2.2⟩
   have nC:H5 s3.heap.objs.size=none:=by
    have z:H5 ce.locals=none:=I6.free
    rw[cL]at z
    exact z
   obtain⟨m,hn,_⟩:=I6.loc
   have hn:s6.heap.Ns ce.locals m:=hn
   rw[cL]at hn
   exact hRR D s3.heap.objs.size s6 m H5 I7 qq hn (I3.TZ (Nat.le_refl _) nC)
  ·have ti:=T.item (X.blk s3 H3 scope ce fp) rfl rfl rfl hc i [] s5 _ H5 (fun _ _=>False) I5 (stat I5 n5) st5 go
   refine O7 ti fun r s6 ⟨u,hr,h6⟩=>?_
   subst hr
   refine O7 h6 fun _ s7 ⟨x,H7,I7,r7,y7,st7,n7⟩=>?_
   have I7':=I7.pinned (stat I7 n7) (T.obj _ _ st7)
   refine O7 (pg _ s7 _ H7 x u _ I7' r7 (step x H7 y7)) fun _ s8 ⟨σ8,H8,I8,hw8,q8⟩=>?_
   refine O7 (pt _ s8 σ8 H8 _ I8 q8) fun b s9 ⟨H9,I9,q9⟩=>?_
   have fin:∀{s':Shared}{H':Hp},Inv (X.blk s3 H3 scope ce fp) ([]++Mo fp s7.heap) σ8 H' s'->Nx H'->∃m,m<n/\∃i H',Inv (X.blk s3 H3 scope ce fp) [] (wipe σ (own.map (·.2))) H' s'/\tn i s'.heap/\(∀b∈fp,H' b=none)/\W i m H':=fun{s' H'} I' nx=>by
    obtain⟨m',hm,w'⟩:=hNx H' nx
    have pin':∀b∈fp,∀o,s7.heap.get? b=some o->s'.heap.get? b=some o/\H' b=none:=fun b hb o e=>
     let z:=I'.pin (b,o) (List.mem_append_right _ (List.mem_append_right _ (Hx hb e)))
     ⟨z.1,z.2.1⟩
    have hl:(wipe σ (own.map (·.2))).length=σ8.length:=by rw[<-hw8,GS]
    refine⟨m',hm,i+1,H',(I'.JS (pins:=[])).weak hl (fun j v e=>?_),T.keep _ _ _ st7 fun b hb o e=>(pin' b hb o e).1,fun b hb=>?_,w'⟩
    ·rw[<-hw8]at e
     exact(KQ e).1
    ·obtain⟨o,e,_⟩:=T.obj _ _ st7 b hb
     exact(pin' b hb o e).2
   cases b with
   |false=>
    simp only[Bool.false_eq_true,if_false]at q9 ⊢
    exact fin I9 q9
   |true=>
    simp only[if_true]at q9 ⊢
    refine thn (pe _ s9 σ8 H9 _ (I9.Ts _) q9) fun z s10 ⟨yv,H10,I10,r10,acc,hD10,hz10,nx⟩=>?_
    exact aa (X:=X.blk s3 H3 scope ce fp) (I10.jd I9.ok) hD10 hz10 r10 fun s11 I11=>fin I11 nx
 exact codeAny_compStart_list loop (T.self X.A 0 _ _ _ st4 loop)
theorem Y4 {P:Program}{w:World}{K:PySem.W.Frag}{mg:Str->Option Value}{base:Heap}{N:List Str}{qual:Str}{scope0:Scope}{f:Addr}{cdv:Value}{A:Around}{outer:List Env}{s00:Shared}{H00:Hp}{E E':XK}{i:Nat}{y:Str}{py:Pos}{elt tg iter:Expr}{ifs:List Expr}{scope:Scope}{own:List (Str×Nat)}{pos spos:Pos}{wi:TI}{g:TG}{tt:TT}{te:TE}(hX:X=Fp (CXR P w) P w K mg base N qual scope0 f cdv A outer s00 H00 E)(hnc:∀x,X.env.cells.lookup x=none)(himp:∀c d H,E' c d H->E c d H)(hc:X.calm=true)(hN:X.N.Nodup)(hy:X.N[i]? =some y)(hyl:X.env.scope.names.lookup y=some .local)
  (hsw:swapsWith (.ListComp elt [⟨tg,iter,ifs,0⟩] scope pos) (some (.Name y py)) spos.line X.env=pure true)(hi:PI X tg iter wi)(ok:GI X.N X.env.scope scope own)
  (hg:∀(s:Shared) (H:Hp) (C:Addr) (cl:List (Str×Addr)) (fp:List Addr),PG (X.blk s H scope (compEnvC scope cl C X.env) fp) tg g)(ht:∀(s:Shared) (H:Hp) (C:Addr) (cl:List (Str×Addr)) (fp:List Addr),PTs (X.blk s H scope (compEnvC scope cl C X.env) fp) ifs tt)
  (he:∀(s:Shared) (H:Hp) (C:Addr) (cl:List (Str×Addr)) (fp:List Addr) (EX:Value->Shared->Prop),Passes (CXR P w) (X.Ts s H scope (compEnvC scope cl C X.env) fp EX) E'->PE (X.Ts s H scope (compEnvC scope cl C X.env) fp EX) elt te)(hs:∀x,foldedSetIterable iter X.env x=pure x:=by intro _;rfl):
  PS X (.Assign [.Name y py] (.ListComp elt [⟨tg,iter,ifs,0⟩] scope pos) spos) (N4 (tLc wi g tt te (own.map (·.2))) (Eu i)):=by
 intro pins s σ H D I h
 rw[exec_Assign_Name_used _ _ _ _ hsw]
 refine wpAny_bind (wpAny_standAt (wpAny_bind ?_))
 show wpAny _ X.A (do let _ <-comprehension (.ListComp elt [⟨tg,iter,ifs,0⟩] scope pos) scope X.env (firstIterPos [⟨tg,iter,ifs,0⟩] pos) (newList []) false (eval iter X.env) (some (assign (.Name y py) X.env))) _ _ s
 have h:tLc wi g tt te (own.map (·.2)) σ H (fun x H1=>Eu i x σ H1 D.nx):=h
 refine wpAny_bind (thn (bq (Qf:=fun _ s'=>SP X pins D .next s') hX hnc himp hc hN I hi ok hg ht he hs h fun L C s' m H' I' q hn f=>?_) fun _ s' hq=>wpAny_pure (wpAny_pure hq))
 show wpAny _ _ (assign (.Name y py) X.env (.ref L)) _ _ _
 refine wpAny_assign_Name (Mn (v:=V.ref L) I' hN hy (.inl hyl) rfl (fun s2 I2 ⟨a,sb,ha⟩=>?_) (.inr hyl))
 obtain⟨f0,f1,f2,f3,f4,f5⟩:=f
 have haC:C≠a:=by
  rcases ha with z|z
  ·rw[z];exact f1
  ·exact fun e=>f4 y a z e.symm
 refine⟨m,hn.sameBut sb haC,fun h3 sb3=>?_⟩
 exact⟨_,H',I2.turned (t':=s2.toks) (fun b o hb e=>(sb3.2 b hb).trans e) f0 f1 f3 f4 f5,q⟩
end
end L2
section
set_option maxHeartbeats 2000000
namespace L2
open PySem PySem.Spec PyProof.Rows
open PySem.W (WData Codec OpenSpec Well WellAll ReadsW ReadsAllW)
mutual
inductive Dw (K:PySem.W.Frag)(H:Hp):V->WData->Prop
 |non:Dw K H .non .none
 |bl (b:Bool):Dw K H (.bl b) (.bool b)
 |int (i:Int):Dw K H (.int i) (.int i)
 |str (x:Str):Dw K H (.str x) (.str x)
 |byt (b:Array UInt8):Dw K H (.byt b) (.bytes b.toList)
 |lst {a:Addr}{xs:List V}{ds:List WData}:SqL K H a xs->Ik K H xs ds->Dw K H (.ref a) (.list ds)
 |tup {a:Addr}{xs:List V}{ds:List WData}:SqT K H a xs->Ik K H xs ds->Dw K H (.ref a) (.tuple ds)
inductive Ik (K:PySem.W.Frag)(H:Hp):List V->List WData->Prop
 |nil:Ik K H [] []
 |cons {v:V}{vs:List V}{d:WData}{ds:List WData}:Dw K H v d->Ik K H vs ds->Ik K H (v::vs) (d::ds)
end
theorem Yd {K:PySem.W.Frag}{H:Hp}:∀ns:List Int,Ik K H (ns.map V.int) (ns.map WData.int)
 |[]=>.nil
 |n::r=>.cons (.int n) (Yd r)
theorem Ye {K:PySem.W.Frag}{H:Hp}:∀(ns:List Int) (xs:List V),Ik K H xs (ns.map WData.int)->xs=ns.map V.int
 |[],xs,h=>by
  cases h
  rfl
 |n::r,xs,h=>by
  cases h with
  |cons h1 h2=>
   cases h1
   rw[Ye r _ h2] <;> rfl
section
variable {P:Program}{w:World}{K:PySem.W.Frag}{H:Hp}{h:Heap}{R:PySem.W.WRecords}{cl:Str->Option Addr}
theorem jQ (hok:HOk P w H h)(KX:K.In h)(q:SqL K H a xs):∃(its:List Value) (o:Obj) (n:Nat),Vals xs its/\h.get? a=some o/\o.cls=.type "list"/\o.data=.seq its.toArray n:=by
 rcases q with q|⟨o,its,n,e,hc,_,hd,_,hv⟩
 ·obtain⟨_,its,n,hv,e⟩:=(show Bk P w H h a (.lst xs)from q.ok hok)
  exact⟨its,_,n,hv,e,rfl,rfl⟩
 ·exact⟨its.toList,o,n,hv,KX _ _ e,hc,by simp[hd]⟩
theorem jR (hok:HOk P w H h)(KX:K.In h)(q:SqT K H a xs):∃(its:List Value) (o:Obj) (n:Nat),Vals xs its/\h.get? a=some o/\o.cls=.type "tuple"/\o.data=.seq its.toArray n:=by
 rcases q with q|⟨o,its,n,e,hc,hd,_,hv⟩
 ·obtain⟨_,its,hv,o,e,hc,n,hd⟩:=(show Bk P w H h a (.tup xs)from q.ok hok)
  exact⟨its,o,n,hv,e,hc,hd⟩
 ·exact⟨its.toList,o,n,hv,KX _ _ e,hc,by simp[hd]⟩
mutual
theorem Dw.reads (hok:HOk P w H h)(KX:K.In h):∀(d:WData) (v:V) (u:Value),Dw K H v d->RelV v u->∃as,ReadsW R cl h u d as
 | .none,_,_,x,r=>by
  cases x
  cases r
  exact⟨_,ReadsW.none⟩
 | .bool b,_,_,x,r=>by
  cases x
  cases r
  exact⟨_,ReadsW.bool b⟩
 | .int i,_,_,x,r=>by
  cases x
  obtain⟨t,rfl⟩:=r
  exact⟨_,ReadsW.int i t⟩
 | .str s,_,_,x,r=>by
  cases x
  obtain⟨t,rfl⟩:=r
  exact⟨_,ReadsW.str s t⟩
 | .bytes b,_,_,x,r=>by
  cases x
  obtain⟨t,rfl⟩:=r
  exact⟨_,ReadsW.bytes _ t⟩
 | .list ds,_,_,x,r=>by
  cases x with
  |lst hs ha=>
   cases r
   obtain⟨its,o,n,rv,ho,hc,hd⟩:=jQ hok KX hs
   obtain⟨as,hr⟩:=Dw.readsAll hok KX ds _ its ha rv
   exact⟨_,ReadsW.list ho hc hd hr⟩
 | .tuple ds,_,_,x,r=>by
  cases x with
  |tup hs ha=>
   cases r
   obtain⟨its,o,n,rv,ho,hc,hd⟩:=jR hok KX hs
   obtain⟨as,hr⟩:=Dw.readsAll hok KX ds _ its ha rv
   exact⟨_,ReadsW.tuple ho hc hd hr⟩
 | .float _,_,_,x,_=>by cases x
 | .dict _,_,_,x,_=>by cases x
 | .bytearray _,_,_,x,_=>by cases x
 | .set _,_,_,x,_=>by cases x
 | .frozenset _,_,_,x,_=>by cases x
 | .obj _ _,_,_,x,_=>by cases x
theorem Dw.readsAll (hok:HOk P w H h)(KX:K.In h):∀(ds:List WData) (vs:List V) (us:List Value),Ik K H vs ds->Vals vs us->∃as,ReadsAllW R cl h us ds as
 |[],_,_,x,r=>by
  cases x
  cases r
  exact⟨_,ReadsAllW.nil⟩
 |d::ds,_,_,x,r=>by
  cases x with
  |cons h1 h2=>
   cases r with
   |cons r1 r2=>
    obtain⟨as,q1⟩:=Dw.reads hok KX d _ _ h1 r1
    obtain⟨bs,q2⟩:=Dw.readsAll hok KX ds _ _ h2 r2
    exact⟨_,ReadsAllW.cons q1 q2⟩
end
end
mutual
def plW:WData->Bool
 | .none=>true
 | .bool _=>true
 | .int _=>true
 | .str _=>true
 | .bytes _=>true
 | .list xs=>OB xs
 | .tuple xs=>OB xs
 |_=>false
def OB:List WData->Bool
 |[]=>true
 |x::r=>plW x&&OB r
end
theorem Vy {α:Type}{f:α->WData}(h:∀a,plW (f a)=true):∀l:List α,OB (l.map f)=true
 |[]=>rfl
 |x::r=>by
  show(plW (f x)&&OB (r.map f))=true
  rw[h x,Vy h r] <;> rfl
theorem Jj:∀(c:Codec) (a:c.denote),plW (c.enc a)=true
 | .unit,_=>rfl
 | .bool,_=>rfl
 | .int _ _,_=>rfl
 | .nat _ _,_=>rfl
 | .u8,_=>rfl
 | .bytes _ _,_=>rfl
 | .text _ _ _ _,_=>rfl
 | .list _ _ c,a=>Vy (fun x=>Jj c x) a
 | .pair c d,a=>by
  show(plW (c.enc a.1)&&(plW (d.enc a.2)&&true))=true
  rw[Jj c a.1,Jj d a.2] <;> rfl
 | .triple c d e,a=>by
  show(plW (c.enc a.1)&&(plW (d.enc a.2.1)&&(plW (e.enc a.2.2)&&true)))=true
  rw[Jj c a.1,Jj d a.2.1,Jj e a.2.2] <;> rfl
 | .option c,none=>rfl
 | .option c,some x=>Jj c x
theorem Sd:∀(cs:List Codec) (a:Codec.denoteAll cs),OB (Codec.encAll cs a)=true
 |[],_=>rfl
 |c::cs,a=>by
  show(plW (c.enc a.1)&&OB (Codec.encAll cs a.2))=true
  rw[Jj c a.1,Sd cs a.2] <;> rfl
theorem LP:∀{xs:List WData}{d:WData},d∈xs->d.weight<=WData.weightAll xs
 |[],d,h=>absurd h (by simp)
 |x::r,d,h=>by
  show d.weight<=x.weight+1+WData.weightAll r
  rcases List.mem_cons.mp h with e|m
  ·rw[e]
   omega
  ·have z:=LP m
   omega
def toV:Value->V
 | .none=>.non
 | .bool b=>.bl b
 | .int i _=>.int i
 | .str x _=>.str x
 | .bytes b _=>.byt b
 | .ref a=>.ref a
 |_=>.non
def OkU (A:List Addr):Value->Prop
 | .none=>True
 | .bool _=>True
 | .int _ _=>True
 | .str _ _=>True
 | .bytes _ _=>True
 | .ref a=>a∈A
 |_=>False
theorem OkU.mono (h:∀a∈A,a∈B):∀{u:Value},OkU A u->OkU B u:=fun{u} x=>by
 cases u with
 |ref a=>exact h a x
 |none=>trivial
 |bool b=>trivial
 |int i t=>trivial
 |str s t=>trivial
 |bytes b t=>trivial
 |_=>exact False.elim x
theorem bD (x:OkU A u):RelV (toV u) u:=by
 cases u with
 |ref a=>rfl
 |none=>rfl
 |bool b=>rfl
 |int i t=>exact⟨t,rfl⟩
 |str s t=>exact⟨t,rfl⟩
 |bytes b t=>exact⟨t,rfl⟩
 |_=>exact False.elim x
theorem Hj:∀{vs:List Value},(∀u∈vs,OkU A u)->Vals (vs.map toV) vs
 |[],_=>.nil
 |u::r,h=>.cons (bD (h u (List.mem_cons_self ..))) (Hj fun x hx=>h x (List.mem_cons_of_mem _ hx))
def Il (h:Heap)(A:List Addr)(a:Addr):Prop:=∃vs:List Value,vs.length<=sizeLine/\(∀u∈vs,OkU A u)/\
 (h.get? a=some {cls:=.type "list",data:=.seq vs.toArray}\/h.get? a=some {cls:=.type "tuple",data:=.seq vs.toArray})
theorem Il.mono (k:∀a∈A,a∈B)(x:Il h A a):Il h B a:=by
 obtain⟨vs,h1,h2,h3⟩:=x
 exact⟨vs,h1,fun u hu=>(h2 u hu).mono k,h3⟩
theorem Gf:∀{vs:List Value}{ds:List WData},WellAll P h vs ds->vs.length=ds.length
 |_,_,.nil=>rfl
 |_,_,.cons _ b=>by
  show _+1=_+1
  rw[Gf b]
theorem Se (x:Well P h v (.list ds)):∃(a:Addr) (vs:List Value),v=.ref a/\h.get? a=some {cls:=.type "list",data:=.seq vs.toArray}/\WellAll P h vs ds:=by
 cases x with
 |list ho hall=>exact⟨_,_,rfl,ho,hall⟩
theorem Ph (x:Well P h v (.tuple ds)):∃(a:Addr) (vs:List Value),v=.ref a/\h.get? a=some {cls:=.type "tuple",data:=.seq vs.toArray}/\WellAll P h vs ds:=by
 cases x with
 |tuple ho hall=>exact⟨_,_,rfl,ho,hall⟩
theorem Sf (x:WellAll P h us (d::ds)):∃(v:Value) (vs:List Value),us=v::vs/\Well P h v d/\WellAll P h vs ds:=by
 cases x with
 |cons a b=>exact⟨_,_,rfl,a,b⟩
theorem Yf (h:n<=1048576):n<=sizeLine:=Nat.le_trans h (by decide)
section
variable {P:Params}{h:Heap}
mutual
theorem bE:∀(d:WData) (v:Value),Well P h v d->plW d=true->d.weight<=1048576->∃A:List Addr,OkU A v/\∀a∈A,Il h A a
 | .none,_,x,_,_=>by
  cases x
  exact⟨[],trivial,fun a m=>absurd m (by simp)⟩
 | .bool b,_,x,_,_=>by
  cases x
  exact⟨[],trivial,fun a m=>absurd m (by simp)⟩
 | .int i,_,x,_,_=>by
  cases x
  exact⟨[],trivial,fun a m=>absurd m (by simp)⟩
 | .str s,_,x,_,_=>by
  cases x
  exact⟨[],trivial,fun a m=>absurd m (by simp)⟩
 | .bytes b,_,x,_,_=>by
  cases x
  exact⟨[],trivial,fun a m=>absurd m (by simp)⟩
 | .list ds,_,x,p,z=>by
  obtain⟨a,vs,rfl,ho,hall⟩:=Se x
  have z2:WData.weightAll ds<=1048576:=z
  obtain⟨A,h1,h2⟩:=L7 ds _ hall p fun d hd=>Nat.le_trans (LP hd) z2
  have k:∀b∈A,b∈a::A:=fun b hb=>List.mem_cons_of_mem _ hb
  refine⟨a::A,List.mem_cons_self ..,fun b hb=>?_⟩
  rcases List.mem_cons.mp hb with e|m
  ·rw[e]
   exact⟨vs,Yf (by rw[Gf hall];exact Nat.le_trans (PySem.W.length_le_weightAllW ds) z2),fun u hu=>(h1 u hu).mono k,.inl ho⟩
  ·exact(h2 b m).mono k
 | .tuple ds,_,x,p,z=>by
  obtain⟨a,vs,rfl,ho,hall⟩:=Ph x
  have z2:WData.weightAll ds<=1048576:=z
  obtain⟨A,h1,h2⟩:=L7 ds _ hall p fun d hd=>Nat.le_trans (LP hd) z2
  have k:∀b∈A,b∈a::A:=fun b hb=>List.mem_cons_of_mem _ hb
  refine⟨a::A,List.mem_cons_self ..,fun b hb=>?_⟩
  rcases List.mem_cons.mp hb with e|m
  ·rw[e]
   exact⟨vs,Yf (by rw[Gf hall];exact Nat.le_trans (PySem.W.length_le_weightAllW ds) z2),fun u hu=>(h1 u hu).mono k,.inr ho⟩
  ·exact(h2 b m).mono k
 | .float _,_,_,p,_=>Bool.noConfusion (show false=true from p)
 | .dict _,_,_,p,_=>Bool.noConfusion (show false=true from p)
 | .bytearray _,_,_,p,_=>Bool.noConfusion (show false=true from p)
 | .set _,_,_,p,_=>Bool.noConfusion (show false=true from p)
 | .frozenset _,_,_,p,_=>Bool.noConfusion (show false=true from p)
 | .obj _ _,_,_,p,_=>Bool.noConfusion (show false=true from p)
theorem L7:∀(ds:List WData) (vs:List Value),WellAll P h vs ds->OB ds=true->(∀d∈ds,d.weight<=1048576)->∃A:List Addr,(∀u∈vs,OkU A u)/\∀a∈A,Il h A a
 |[],_,x,_,_=>by
  cases x
  exact⟨[],fun u m=>absurd m (by simp),fun a m=>absurd m (by simp)⟩
 |d::ds,_,x,p,z=>by
  obtain⟨v,vs,rfl,x1,x2⟩:=Sf x
  have q:plW d=true/\OB ds=true:=Bool.and_eq_true_iff.mp p
  obtain⟨A,a1,a2⟩:=bE d v x1 q.1 (z d (List.mem_cons_self ..))
  obtain⟨B,b1,b2⟩:=L7 ds vs x2 q.2 fun e he=>z e (List.mem_cons_of_mem _ he)
  have kA:∀b∈A,b∈A++B:=fun b hb=>List.mem_append.mpr (.inl hb)
  have kB:∀b∈B,b∈A++B:=fun b hb=>List.mem_append.mpr (.inr hb)
  refine⟨A++B,fun u hu=>?_,fun b hb=>?_⟩
  ·rcases List.mem_cons.mp hu with e|m
   ·rw[e]
    exact a1.mono kA
   ·exact(b1 u m).mono kB
  ·rcases List.mem_append.mp hb with m|m
   ·exact(a2 b m).mono kA
   ·exact(b2 b m).mono kB
end
end
def eF (o:Obj):Option HO:=match o.data with
 | .seq vs _=>if(o.cls == Value.type "list")=true then some (.frz o (.lst (vs.toList.map toV)))else some (.frz o (.tup (vs.toList.map toV)))
 |_=>none
def IH (K:PySem.W.Frag)(h:Heap)(A:List Addr):Hp:=fun b=>if b∈A then(if(K.lookup b).isNone=true then(h.get? b).bind eF else none)else none
def Vz (H:Hp):Prop:=∀b,H b=none\/∃o u,H b=some (.frz o u)
theorem V0 (vs:List Value):eF {cls:=.type "list",data:=.seq vs.toArray}=some (.frz {cls:=.type "list",data:=.seq vs.toArray} (.lst (vs.map toV))):=by
 show(if(Value.type "list" == Value.type "list")=true then some (HO.frz {cls:=.type "list",data:=.seq vs.toArray} (.lst (vs.toArray.toList.map toV)))else some (HO.frz {cls:=.type "list",data:=.seq vs.toArray} (.tup (vs.toArray.toList.map toV))))=_
 rw[if_pos (beq_self_eq_true _)]
theorem V1 (vs:List Value):eF {cls:=.type "tuple",data:=.seq vs.toArray}=some (.frz {cls:=.type "tuple",data:=.seq vs.toArray} (.tup (vs.map toV))):=by
 show(if(Value.type "tuple" == Value.type "list")=true then some (HO.frz {cls:=.type "tuple",data:=.seq vs.toArray} (.lst (vs.toArray.toList.map toV)))else some (HO.frz {cls:=.type "tuple",data:=.seq vs.toArray} (.tup (vs.toArray.toList.map toV))))=_
 rw[if_neg (by decide)]
section
variable {P:Program}{w:World}{K:PySem.W.Frag}{h:Heap}{A:List Addr}
theorem Oa (hb:b∈A)(hk:K.lookup b=none)(e:h.get? b=some o):IH K h A b=eF o:=by
 unfold IH
 rw[if_pos hb,hk,if_pos (show(none:Option Obj).isNone=true from rfl),e] <;> rfl
theorem eG (q:IH K h A b=some u):b∈A/\K.lookup b=none:=by
 unfold IH at q
 by_cases hb:b∈A
 ·rw[if_pos hb]at q
  cases hk:K.lookup b with
  |none=>exact⟨hb,rfl⟩
  |some o=>
   rw[hk,if_neg (by simp)]at q
   cases q
 ·rw[if_neg hb]at q
  cases q
theorem Ob (ar:∀a∈A,Il h A a)(q:IH K h A b=some u):K.lookup b=none/\∃vs:List Value,vs.length<=sizeLine/\(∀u∈vs,OkU A u)/\
  ((h.get? b=some {cls:=.type "list",data:=.seq vs.toArray}/\u=.frz {cls:=.type "list",data:=.seq vs.toArray} (.lst (vs.map toV)))\/
   (h.get? b=some {cls:=.type "tuple",data:=.seq vs.toArray}/\u=.frz {cls:=.type "tuple",data:=.seq vs.toArray} (.tup (vs.map toV)))):=by
 obtain⟨hb,hk⟩:=eG q
 obtain⟨vs,h1,h2,h3⟩:=ar b hb
 refine⟨hk,vs,h1,h2,?_⟩
 rcases h3 with e|e
 ·rw[Oa hb hk e,V0]at q
  exact .inl ⟨e,(Option.some.inj q).symm⟩
 ·rw[Oa hb hk e,V1]at q
  exact .inr ⟨e,(Option.some.inj q).symm⟩
theorem ZW (ar:∀a∈A,Il h A a):Vz (IH K h A):=fun b=>by
 cases q:IH K h A b with
 |none=>exact .inl rfl
 |some u=>
  obtain⟨_,vs,_,_,⟨_,e⟩|⟨_,e⟩⟩:=Ob ar q
  ·exact .inr ⟨_,_,by rw[e]⟩
  ·exact .inr ⟨_,_,by rw[e]⟩
theorem eI (ar:∀a∈A,Il h A a):HOk P w (IH K h A) h:=fun b u q=>by
 obtain⟨_,vs,h1,h2,⟨e,rfl⟩|⟨e,rfl⟩⟩:=Ob ar q
 ·exact⟨e,by rw[List.length_map];exact h1,vs,_,Hj h2,e⟩
 ·exact⟨e,by rw[List.length_map];exact h1,vs,Hj h2,_,e,rfl,_,rfl⟩
theorem Oc {c c':Value}{vs us:List Value}(e:(some {cls:=c,data:=.seq vs.toArray}:Option Obj)=some {cls:=c',data:=.seq us.toArray}):c=c'/\vs=us:=by
 have e1:=Option.some.inj e
 have e2:c=c':=congrArg Obj.cls e1
 have e3:Data.seq vs.toArray=Data.seq us.toArray:=congrArg Obj.data e1
 injection e3 with e4
 refine⟨e2,?_⟩
 have e5:=congrArg Array.toList e4
 simpa using e5
theorem my (KX:K.In h)(ar:∀a∈A,Il h A a){a:Addr}{vs:List Value}(ha:a∈A)(e:h.get? a=some {cls:=.type "list",data:=.seq vs.toArray}):(∀u∈vs,OkU A u)/\SqL K (IH K h A) a (vs.map toV):=by
 obtain⟨us,h1,h2,h3⟩:=ar a ha
 have hu:us=vs:=by
  rcases h3 with q|q
  ·rw[e]at q
   exact(Oc q).2.symm
  ·rw[e]at q
   exact absurd (Value.type.inj (Oc q).1) (by decide)
 subst hu
 refine⟨h2,?_⟩
 cases hk:K.lookup a with
 |none=>exact .inl (.inr ⟨_,by rw[Oa ha hk e,V0]⟩)
 |some o=>
  have e2:=KX a o hk
  rw[e]at e2
  obtain rfl:=Option.some.inj e2
  exact .inr ⟨_,us.toArray,_,hk,rfl,rfl,rfl,by rw[List.size_toArray];exact h1,by simpa using Hj h2⟩
theorem mz (KX:K.In h)(ar:∀a∈A,Il h A a){a:Addr}{vs:List Value}(ha:a∈A)(e:h.get? a=some {cls:=.type "tuple",data:=.seq vs.toArray}):(∀u∈vs,OkU A u)/\SqT K (IH K h A) a (vs.map toV):=by
 obtain⟨us,h1,h2,h3⟩:=ar a ha
 have hu:us=vs:=by
  rcases h3 with q|q
  ·rw[e]at q
   exact absurd (Value.type.inj (Oc q).1) (by decide)
  ·rw[e]at q
   exact(Oc q).2.symm
 subst hu
 refine⟨h2,?_⟩
 cases hk:K.lookup a with
 |none=>exact .inl (.inr ⟨_,by rw[Oa ha hk e,V1]⟩)
 |some o=>
  have e2:=KX a o hk
  rw[e]at e2
  obtain rfl:=Option.some.inj e2
  exact .inr ⟨_,us.toArray,_,hk,rfl,rfl,by rw[List.size_toArray];exact h1,by simpa using Hj h2⟩
mutual
theorem jS {Pm:Params}(KX:K.In h)(ar:∀a∈A,Il h A a):∀(d:WData) (v:Value),Well Pm h v d->plW d=true->OkU A v->Dw K (IH K h A) (toV v) d
 | .none,_,x,_,_=>by
  cases x
  exact .non
 | .bool b,_,x,_,_=>by
  cases x
  exact .bl b
 | .int i,_,x,_,_=>by
  cases x
  exact .int i
 | .str s,_,x,_,_=>by
  cases x
  exact .str s
 | .bytes b,_,x,_,_=>by
  cases x
  have z:=Dw.byt (K:=K) (H:=IH K h A) b.toArray
  exact z
 | .list ds,_,x,p,hu=>by
  obtain⟨a,vs,rfl,ho,hall⟩:=Se x
  obtain⟨h2,hs⟩:=my KX ar hu ho
  exact .lst hs (UE KX ar ds _ hall p h2)
 | .tuple ds,_,x,p,hu=>by
  obtain⟨a,vs,rfl,ho,hall⟩:=Ph x
  obtain⟨h2,hs⟩:=mz KX ar hu ho
  exact .tup hs (UE KX ar ds _ hall p h2)
 | .float _,_,_,p,_=>Bool.noConfusion (show false=true from p)
 | .dict _,_,_,p,_=>Bool.noConfusion (show false=true from p)
 | .bytearray _,_,_,p,_=>Bool.noConfusion (show false=true from p)
 | .set _,_,_,p,_=>Bool.noConfusion (show false=true from p)
 | .frozenset _,_,_,p,_=>Bool.noConfusion (show false=true from p)
 | .obj _ _,_,_,p,_=>Bool.noConfusion (show false=true from p)
theorem UE (KX:K.In h)(ar:∀a∈A,Il h A a):∀(ds:List WData) (vs:List Value),WellAll Pm h vs ds->OB ds=true->(∀u∈vs,OkU A u)->Ik K (IH K h A) (vs.map toV) ds
 |[],_,x,_,_=>by
  cases x
  exact .nil
 |d::ds,_,x,p,hu=>by
  obtain⟨v,vs,rfl,x1,x2⟩:=Sf x
  have q:plW d=true/\OB ds=true:=Bool.and_eq_true_iff.mp p
  exact .cons (jS KX ar d v x1 q.1 (hu _ (List.mem_cons_self ..))) (UE KX ar ds vs x2 q.2 fun u m=>hu u (List.mem_cons_of_mem _ m))
end
end
theorem ZX {P:Program}{w:World}{K:PySem.W.Frag}{mg mb:Str->Option Value}{CX:CXT}{k:Nat}{fa:Addr}{fd:FuncData}{ps:List Str}{sp:Sp}{s₁:Shared}{vals:List Value}{ds:List WData}{R:PySem.W.WRecords}{cl:Str->Option Addr}{d0:WData}
  (KX:K.In s₁.heap)(hns:s₁.heap.Ns mainGlobals mg)(hb:s₁.heap.Ns builtinsNs mb)(hbb:∀x:Str,x≠"__name__"->mb x=bootBuiltins x)(hlim:s₁.heap.NoLimit)(hg:s₁.gens=#[])
  (hwl:WellAll w.params s₁.heap vals ds)(hpl:OB ds=true)(hwt:∀d∈ds,d.weight<=1048576)(hr:C1 k callerA)
  (F:∀base:Heap,K.In base->base.Ns mainGlobals mg->Ls P w K mg base CX k fa fd ps sp)(hbind:∀(s:Shared) (us:List Value),us.length=ps.length->BindsTo s fd ⟨us,[]⟩ (ps.zip us))(hlen:ds.length=ps.length)
  (hsp:∀(H:Hp) (xs:List V),Vz H->Ik K H xs ds->sp xs H (fun v H'=>Dw K H' v d0) fun _ _ _=>False)
  (hCX:∀H e s',CX [] H s₁ (fun _ _ _=>False) e s'->False):
  codeAny (model P w) callerA (.call (.ref fa) ⟨vals,[]⟩) (fun r s'=>∃u as,r=.ok (.ret u)/\ReadsW R cl s'.heap u d0 as/\OldK s₁.heap s'.heap/\s'.os=s₁.os/\AllBare s'.gens) s₁:=by
 obtain⟨A,ho,ar⟩:=L7 ds vals hwl hpl hwt
 have hO:Vz (IH K s₁.heap A):=ZW ar
 have hok:HOk P w (IH K s₁.heap A) s₁.heap:=eI ar
 have hS:=UE KX ar ds vals hwl hpl ho
 have hV:=Hj ho
 have hK:∀b u,IH K s₁.heap A b=some u->K.lookup b=none:=fun b u q=>(Ob ar q).1
 have noA:∀{b:Addr}{o:Obj}{es:Array DictEntry}{ep:Nat},s₁.heap.get? b=some o->o.data=.dict es ep->IH K s₁.heap A b=none:=fun{b o es ep} e d=>by
  cases q:IH K s₁.heap A b with
  |none=>rfl
  |some u=>
   obtain⟨_,vs,_,_,⟨e2,_⟩|⟨e2,_⟩⟩:=Ob ar q
   ·rw[e2]at e
    cases e
    have d':Data.seq vs.toArray _=Data.dict es ep:=d
    cases d'
   ·rw[e2]at e
    cases e
    have d':Data.seq vs.toArray _=Data.dict es ep:=d
    cases d'
 generalize IH K s₁.heap A=H at hO hok hS hK noA
 have base_of:∀{b:Addr}{o:Obj},s₁.heap.get? b=some o->H b=none->(TU s₁.heap H).get? b=some o:=fun e n=>aN e n
 have nsK:∀{b:Addr}{m:Str->Option Value},s₁.heap.Ns b m->(TU s₁.heap H).Ns b m:=fun{b m} ⟨o,es,ep,e,d,r⟩=>⟨o,es,ep,base_of e (noA e d),d,r⟩
 have nK:∀b o,K.lookup b=some o->H b=none:=fun b o e=>by
  cases q:H b with
  |none=>rfl
  |some u=>
   rw[hK b u q]at e
   cases e
 have hKb:K.In (TU s₁.heap H):=fun b o e=>base_of (KX b o e) (nK b o e)
 have hM:Mod K mg (TU s₁.heap H):=⟨hKb,nsK hns,⟨mb,nsK hb,hbb⟩,let⟨mc,h1,h2⟩:=hlim;⟨mc,nsK h1,h2⟩⟩
 have e0:XD P w K mg (TU s₁.heap H) callerA [] s₁ H:=⟨rfl,hM,fun b o e=>dB e,Nat.le_of_eq (Y6 _ _),trivial,fun b hb=>absurd (show b∈([]:List Addr)from hb) (by simp),hok,.of_eq hg⟩
 have hl:vals.length=ps.length:=by rw[Gf hwl];exact hlen
 refine codeAny_mono ((F _ hKb (nsK hns)).run callerA [] s₁ H ⟨vals,[]⟩ vals (vals.map toV) _ _ hr e0 (hbind s₁ vals hl) hV (hsp H _ hO hS)) fun r s' x=>?_
 cases r with
 |error e=>exact(hCX H e s' x).elim
 |ok fl=>
  cases fl with
  |next=>exact False.elim x
  |brk=>exact False.elim x
  |cont=>exact False.elim x
  |ret u=>
   obtain⟨v,H',os,bare,un,hok',r',q⟩:=x
   have kept:∀b o,s₁.heap.get? b=some o->s'.heap.get? b=some o:=fun b o e=>by
    cases q2:H b with
    |none=>exact un.keep b o e q2 (by intro z;exact absurd (show b∈([]:List Addr)from z) (by simp)) (by simp)
    |some u2=>
     rcases hO b with z|⟨ob,u3,z⟩
     ·rw[q2]at z
      cases z
     ·have z2:=un.Mg b ob _ z
      obtain⟨e1,_⟩:=hok b _ z
      obtain⟨e2,_⟩:=hok' b _ z2
      rw[e]at e1
      cases e1
      exact e2
   have KX':K.In s'.heap:=fun b o e=>kept b o (KX b o e)
   obtain⟨as,hrd⟩:=Dw.reads (R:=R) (cl:=cl) hok' KX' d0 v u q r'
   exact⟨u,as,rfl,hrd,OldK.of_keep kept,os,bare⟩
theorem Pj (h:WData.layableAll ds=true):∀d∈ds,d.weight<=1048576:=fun d hd=>
 (PySem.W.layableW_iff.mp (List.all_eq_true.mp h d hd)).2.2
theorem Pk:∀(cs:List Codec) (a:Codec.denoteAll cs),(Codec.encAll cs a).length=cs.length
 |[],_=>rfl
 |c::cs,a=>by
  show(Codec.encAll cs a.2).length+1=cs.length+1
  rw[Pk cs a.2]
theorem ZY {r:OpenSpec}{k:Nat}{q:Program}{loose:List Str}{XP:(Str->Option Value)->Heap->Prop}{YP:World->Heap->Prop}{d:DefRec}{K:Params->PySem.W.Frag}{CX:World->CXT}{ps:List Str}{sp:World->Sp}
  (hwell:r.wellSaid=true)(hdf:d.params.defaults=[])(hlen:r.args.length=ps.length)(hr:C1 k callerA)
  (hY:∀(w:World) (h:Heap),YP w h->(K w.params).In h)
  (F:∀(w:World) (mg:Str->Option Value) (fa:Addr) (h:Heap),YP w h->(K w.params).In h->h.Ns mainGlobals mg->mg d.name=some (.ref fa)->
   ∃fd:FuncData,(∀(s:Shared) (us:List Value),us.length=ps.length->BindsTo s fd ⟨us,[]⟩ (ps.zip us))/\
    ∀base:Heap,(K w.params).In base->base.Ns mainGlobals mg->Ls r.prog w (K w.params) mg base (CX w) k fa fd ps (sp w))
  (hsp:∀(w:World) (H:Hp) (xs:List V) (a:Codec.denoteAll r.args),Vz H->Codec.withinAll r.args a=true->Codec.app r.args r.asked a=true->Ik (K w.params) H xs (Codec.encAll r.args a)->
   sp w xs H (fun v H'=>Dw (K w.params) H' v (r.ret.enc (Codec.app r.args r.f a))) fun _ _ _=>False)
  (hCX:∀(w:World) (H:Hp) (s:Shared) (e:Value) (s':Shared),CX w [] H s (fun _ _ _=>False) e s'->False):
  PySem.W.WalkOS q loose XP YP r d [] (fun f vs=>PySem.call f vs):=by
 intro w s_0 s₁ mg mb G Y fa o pm cd doc dV kV ho hd hcd hD hmg hg args vals as hpre hlay hrd hwl hlo
 obtain⟨a,e1,e2⟩:=PySem.W.os_pre_some hpre
 obtain⟨e3,hwi⟩:=Codec.encAll_of_decAll r.args args a e1
 subst e3
 have KX:=hY w _ Y
 obtain⟨fd,hb,hF⟩:=F w mg fa _ Y KX G.T.g hmg
 refine PySem.W.enter_call (codeAny_mono (ZX (R:=[]) (cl:=classAt s_0.heap) (d0:=r.ret.enc (Codec.app r.args r.f a)) KX G.T.g G.T.b G.T.builtins G.T.nolimit hg hwl (Sd _ _) (Pj hlay) hr hF hb (by rw[Pk];exact hlen)
  (fun H xs hO hS=>hsp w H xs a hO hwi e2 hS) fun H e s'=>hCX w H s₁ e s') fun r' s' hq=>?_)
 obtain⟨u,as',rfl,h1,h2,h3,h4⟩:=hq
 exact⟨.inl ⟨u,_,as',rfl,fun _=>rfl,h1,(OpenSpec.post_iff hwell hwi _ _).mpr rfl,fun z=>Bool.noConfusion (show false=true from z)⟩,h2,h3,h4⟩
theorem Xb {r:OpenSpec}{k:Nat}{q:Program}{loose:List Str}{XP:(Str->Option Value)->Heap->Prop}{YP:World->Heap->Prop}{d:DefRec}{K:Params->PySem.W.Frag}{CX:CXT}{ps:List Str}{sp:PySem.W.Frag->Sp}
  (hwell:r.wellSaid=true)(hdf:d.params.defaults=[])(hlen:r.args.length=ps.length)(hr:C1 k callerA)
  (hY:∀(w:World) (h:Heap),YP w h->(K w.params).In h)
  (F:∀(w:World) (mg:Str->Option Value) (fa:Addr) (h:Heap),YP w h->(K w.params).In h->h.Ns mainGlobals mg->mg d.name=some (.ref fa)->
   ∃fd:FuncData,(∀(s:Shared) (us:List Value),us.length=ps.length->BindsTo s fd ⟨us,[]⟩ (ps.zip us))/\
    ∀base:Heap,(K w.params).In base->base.Ns mainGlobals mg->Ls r.prog w (K w.params) mg base CX k fa fd ps (sp (K w.params)))
  (hsp:∀(K:PySem.W.Frag) (H:Hp) (xs:List V) (a:Codec.denoteAll r.args),Vz H->Codec.withinAll r.args a=true->Codec.app r.args r.asked a=true->Ik K H xs (Codec.encAll r.args a)->
   sp K xs H (fun v H'=>Dw K H' v (r.ret.enc (Codec.app r.args r.f a))) fun _ _ _=>False)
  (hCX:∀(H:Hp) (s:Shared) (e:Value) (s':Shared),CX [] H s (fun _ _ _=>False) e s'->False):
  PySem.W.WalkOS q loose XP YP r d [] (fun f vs=>PySem.call f vs):=
 ZY (K:=K) (CX:=fun _=>CX) (sp:=fun w=>sp (K w.params)) hwell hdf hlen hr hY F (fun w H xs a h1 h2 h3 h4=>hsp (K w.params) H xs a h1 h2 h3 h4) fun _ H s e s'=>hCX H s e s'
end L2
end
namespace Fd
open PySem PySem.Spec PyProof.Rows L2
def top (i:Nat):Stmt:=PySem.Challenge.pw_dicefights_s01_answers.main.body.getD i (.Pass ⟨0,0,0,0⟩)
abbrev EV:Stmt:=top 1
abbrev D5:Stmt:=top 2
abbrev Fw:Stmt:=top 3
abbrev ND:Stmt:=top 9
abbrev UR:Stmt:=top 13
abbrev LZ:Stmt:=top 14
abbrev IU:Stmt:=top 15
abbrev IW:Stmt:=top 16
abbrev GA:Stmt:=top 17
abbrev HN:Stmt:=top 18
abbrev GU:Stmt:=top 20
abbrev E6:Stmt:=top 21
abbrev HF:Stmt:=top 42
abbrev J0:Stmt:=top 43
abbrev J3:Stmt:=top 44
abbrev IA:Stmt:=top 45
abbrev JL:Stmt:=top 46
abbrev LF:Stmt:=top 47
abbrev G8:Stmt:=top 48
abbrev Fq:Stmt:=top 49
abbrev J4:Stmt:=top 51
abbrev J5:Stmt:=top 52
abbrev J7:Stmt:=top 53
abbrev HU:Stmt:=top 54
abbrev IJ:Stmt:=top 55
abbrev Jp:Stmt:=top 56
abbrev Jq:Stmt:=top 57
abbrev De:Stmt:=top 59
abbrev E7:Stmt:=top 62
abbrev Jg:Stmt:=top 63
abbrev FN:Stmt:=top 64
abbrev F6:Stmt:=top 65
abbrev FH:Stmt:=top 66
abbrev HG:Stmt:=top 67
abbrev D3:Stmt:=top 68
abbrev Fs:Stmt:=top 72
abbrev Em:Stmt:=top 73
abbrev HC:Stmt:=top 74
abbrev IX:Stmt:=top 80
abbrev Jh:Stmt:=top 81
abbrev Ji:Stmt:=top 82
abbrev JB:Stmt:=top 83
abbrev JC:Stmt:=top 84
abbrev JG:Stmt:=top 85
abbrev IY:Stmt:=top 86
abbrev C9:Stmt:=top 88
abbrev GB:Stmt:=top 93
abbrev IZ:Stmt:=top 94
abbrev Ca:Stmt:=top 95
abbrev HH:Stmt:=top 96
abbrev HA:Stmt:=top 97
abbrev KU:Stmt:=top 98
abbrev HV:Stmt:=inClass (top 10) 0
abbrev DA:Stmt:=inClass (top 10) 1
abbrev HR:Stmt:=inClass (top 12) 0
abbrev F8:Stmt:=inClass (top 12) 1
abbrev EB:Stmt:=inClass (top 12) 2
abbrev Ct:Stmt:=inClass (top 12) 3
abbrev C8:Stmt:=inClass (top 12) 4
abbrev Gy:Stmt:=inClass (top 22) 0
abbrev Gz:Stmt:=inClass (top 22) 1
abbrev EO:Stmt:=inClass (top 22) 2
abbrev E4:Stmt:=inClass (top 22) 3
abbrev E5:Stmt:=inClass (top 22) 4
abbrev JP:Stmt:=inClass (top 23) 0
abbrev Jz:Stmt:=inClass (top 23) 1
abbrev F9:Stmt:=inClass (top 23) 2
abbrev HQ:Stmt:=inClass (top 23) 3
abbrev HS:Stmt:=inClass (top 23) 4
abbrev IC:Stmt:=inClass (top 61) 0
abbrev LL:Stmt:=inClass (top 71) 0
abbrev JZ:Stmt:=inClass (top 71) 1
abbrev J8:Stmt:=inClass (top 75) 0
abbrev EC:Stmt:=inClass (top 75) 1
abbrev Ce:Stmt:=inClass (top 75) 2
abbrev Ia:Stmt:=inClass (top 77) 0
abbrev DV:Stmt:=inClass (top 77) 1
abbrev Cm:Stmt:=inClass (top 77) 2
abbrev EW:Stmt:=inClass (top 77) 3
abbrev G9:Stmt:=inClass (top 77) 4
abbrev ED:Stmt:=inClass (top 77) 5
abbrev J9:Stmt:=inClass (top 78) 0
abbrev HW:Stmt:=inClass (top 92) 0
abbrev EE:Stmt:=inClass (top 92) 1
abbrev CV:Stmt:=inClass (top 92) 2
abbrev EF:Stmt:=inClass (top 92) 3
set_option genInjectivity false in
set_option genSizeOf false in
structure Ad where
 D4:Addr
 DL:Addr
 FJ:Addr
 Oe:Addr
 added:Addr
 mirrored:Addr
 IV:Addr
 Ib:Addr
 FU:Addr
 Gm:Addr
 digits_of:Addr
 El:Addr
 Gh:Addr
 Kd:Addr
 Ke:Addr
 IB:Addr
 KI:Addr
 Lo:Addr
 GV:Addr
 FE:Addr
 Ea:Addr
 Eb:Addr
 Ec:Addr
 Cu:Addr
 Dd:Addr
 EY:Addr
 EZ:Addr
 C4:Addr
 En:Addr
 KY:Addr
 IK:Addr
 FO:Addr
 IF:Addr
 Gj:Addr
 FI:Addr
 FF:Addr
 Gb:Addr
 Ga:Addr
 Dg:Addr
 ES:Addr
 EU:Addr
 EL:Addr
 EM:Addr
 EN:Addr
 Dh:Addr
 Cf:Addr
 FV:Addr
 Ic:Addr
 DJ:Addr
 Gk:Addr
 GX:Addr
 answers:Addr
 Stream:Addr
 Gr:Addr
 Cg:Addr
 Ao:Addr
 Gp:Addr
 FR:Addr
 DN:Addr
 CL:Addr
 Cd:Addr
 B5:Addr
 GN:Addr
 GO:Addr
 Du:Addr
 Ei:Addr
 Ej:Addr
 Dt:Addr
 KN:Addr
 Kc:Addr
 FT:Addr
 Gn:Addr
 Gq:Addr
 Table:Addr
 ID:Addr
 Act:Addr
 L3:Addr
 KS:Addr
 Side:Addr
 Kf:Addr
 FW:Addr
 DO:Addr
 BB:Addr
 Ie:Addr
 C0:Addr
 CH:Addr
 D6:Addr
 GW:Addr
 DP:Addr
 EI:Addr
 Kg:Addr
 Reader:Addr
 Gs:Addr
 DQ:Addr
 B2:Addr
 DR:Addr
 BI:Addr
 Ed:Addr
 Br:Addr
 Ah:Addr
 Au:Addr
 BV:Addr
 DS:Addr
 Bg:Addr
 BC:Addr
 La:Addr
 KA:Addr
 Rx:Addr
def Df (K:PySem.W.Frag)(x qual:Str)(st:Stmt)(f:Addr)(ps:List Str):Prop:=∃fd,Fun K x qual st f fd/\Binds K fd ps []
structure Tf (K:PySem.W.Frag)(mg:Str->Option Value)(a:Ad):Prop where
 M5:Df K "common_divisor" "common_divisor" EV a.D4 ["one","other"]
 Hh:mg "common_divisor"=some (.ref a.D4)
 L6:Df K "common_multiple" "common_multiple" D5 a.DL ["one","other"]
 MO:mg "common_multiple"=some (.ref a.DL)
 Pe:Df K "lowest_terms" "lowest_terms" Fw a.FJ ["above","below"]
 Bh:mg "lowest_terms"=some (.ref a.FJ)
 Zn:Df K "stirred" "stirred" ND a.Oe ["x"]
 NF:mg "stirred"=some (.ref a.Oe)
 eW:Df K "added" "added" UR a.added ["one","other"]
 YR:mg "added"=some (.ref a.added)
 Xo:Df K "mirrored" "mirrored" LZ a.mirrored ["spread"]
 XR:mg "mirrored"=some (.ref a.mirrored)
 US:Df K "sum_spread" "sum_spread" IU a.IV ["dice","faces"]
 UQ:mg "sum_spread"=some (.ref a.IV)
 UU:Df K "held_faces" "held_faces" IW a.Ib ["shown","kept","greatest"]
 MN:mg "held_faces"=some (.ref a.Ib)
 QB:Df K "one_die_more" "one_die_more" GA a.FU ["ways_of_held","faces","kept","greatest"]
 Py:mg "one_die_more"=some (.ref a.FU)
 RM:Df K "kept_spread" "kept_spread" HN a.Gm ["dice","faces","kept","greatest"]
 RP:mg "kept_spread"=some (.ref a.Gm)
 Vc:Df K "digits_of" "digits_of" GU a.digits_of ["number"]
 GP:mg "digits_of"=some (.ref a.digits_of)
 N7:Df K "power_at_most" "power_at_most" E6 a.El ["base","exponent","bound"]
 OE:mg "power_at_most"=some (.ref a.El)
 RI:Df K "read_number" "read_number" HF a.Gh ["row"]
 DI:mg "read_number"=some (.ref a.Gh)
 WM:Df K "read_dice" "read_dice" J0 a.Kd ["sign","dice","behind"]
 WN:mg "read_dice"=some (.ref a.Kd)
 WO:Df K "read_part" "read_part" J3 a.Ke ["sign","row"]
 Nf:mg "read_part"=some (.ref a.Ke)
 T4:Df K "read_parts" "read_parts" IA a.IB ["text"]
 S8:mg "read_parts"=some (.ref a.IB)
 VF:Df K "read_text" "read_text" JL a.KI ["text"]
 VI:mg "read_text"=some (.ref a.KI)
 Wv:Df K "one_text" "one_text" LF a.Lo ["parts"]
 Xp:mg "one_text"=some (.ref a.Lo)
 Qy:Df K "text_spread" "text_spread" G8 a.GV ["parts"]
 Be:mg "text_spread"=some (.ref a.GV)
 PH:Df K "rolled_value" "rolled_value" Fq a.FE ["parts","stream"]
 Pu:mg "rolled_value"=some (.ref a.FE)
 WQ:Df K "read_call" "read_call" J4 a.Ea ["numbers","texts"]
 gY:mg "read_call"=some (.ref a.Ea)
 WR:Df K "text_call" "text_call" J5 a.Eb ["numbers","texts"]
 gZ:mg "text_call"=some (.ref a.Eb)
 WS:Df K "dist_call" "dist_call" J7 a.Ec ["numbers","texts"]
 gi:mg "dist_call"=some (.ref a.Ec)
 RV:Df K "chance_call" "chance_call" HU a.Cu ["numbers","texts"]
 ck:mg "chance_call"=some (.ref a.Cu)
 UK:Df K "beats_call" "beats_call" IJ a.Dd ["numbers","texts"]
 eZ:mg "beats_call"=some (.ref a.Dd)
 V9:Df K "mean_call" "mean_call" Jp a.EY ["numbers","texts"]
 gj:mg "mean_call"=some (.ref a.EY)
 WA:Df K "roll_call" "roll_call" Jq a.EZ ["numbers","texts"]
 gp:mg "roll_call"=some (.ref a.EZ)
 Lb:Df K "answer_dice_call" "answer_dice_call" De a.C4 ["call","numbers","texts"]
 LG:mg "answer_dice_call"=some (.ref a.C4)
 OA:Df K "points_behind" "points_behind" E7 a.En ["side","now","heals","points"]
 Ij:mg "points_behind"=some (.ref a.En)
 Vu:Df K "act_worth" "act_worth" Jg a.KY ["sides","who","place","a","b","behind"]
 Nt:mg "act_worth"=some (.ref a.KY)
 UN:Df K "act_worths" "act_worths" FN a.IK ["sides","who","a","b","behind"]
 Ll:mg "act_worths"=some (.ref a.IK)
 Pw:Df K "wanted_worth" "wanted_worth" F6 a.FO ["who","worths"]
 JE:mg "wanted_worth"=some (.ref a.FO)
 UD:Df K "last_table" "last_table" FH a.IF ["sides"]
 UW:mg "last_table"=some (.ref a.IF)
 RJ:Df K "odds_before" "odds_before" HG a.Gj ["sides","who","a","b","behind"]
 RF:mg "odds_before"=some (.ref a.Gj)
 Pd:Df K "table_before" "table_before" D3 a.FI ["sides","who","behind"]
 QC:mg "table_before"=some (.ref a.FI)
 PM:Df K "point_counts" "point_counts" Fs a.FF ["spread"]
 Jc:mg "point_counts"=some (.ref a.FF)
 Q9:Df K "hurting_act" "hurting_act" Em a.Gb ["hit","need","harm"]
 RD:mg "hurting_act"=some (.ref a.Gb)
 Q8:Df K "healing_act" "healing_act" HC a.Ga ["healing"]
 RE:mg "healing_act"=some (.ref a.Ga)
 UX:Df K "begin_call" "begin_call" IX a.Dg ["game","numbers","texts"]
 eh:mg "begin_call"=some (.ref a.Dg)
 Vv:Df K "hurt_call" "hurt_call" Jh a.ES ["game","numbers","texts"]
 gr:mg "hurt_call"=some (.ref a.ES)
 Vw:Df K "heal_call" "heal_call" Ji a.EU ["game","numbers","texts"]
 gu:mg "heal_call"=some (.ref a.EU)
 U6:Df K "odds_call" "odds_call" JB a.EL ["game","numbers","texts"]
 g9:mg "odds_call"=some (.ref a.EL)
 U8:Df K "best_call" "best_call" JC a.EM ["game","numbers","texts"]
 hE:mg "best_call"=some (.ref a.EM)
 U9:Df K "acts_call" "acts_call" JG a.EN ["game","numbers","texts"]
 hJ:mg "acts_call"=some (.ref a.EN)
 UY:Df K "worth_call" "worth_call" IY a.Dh ["game","numbers","texts"]
 eu:mg "worth_call"=some (.ref a.Dh)
 Ks:Df K "answer_fight_call" "answer_fight_call" C9 a.Cf ["game","call","numbers","texts"]
 Kh:mg "answer_fight_call"=some (.ref a.Cf)
 QD:Df K "check_ranges" "check_ranges" GB a.FV ["ranges","numbers","rows"]
 Ow:mg "check_ranges"=some (.ref a.FV)
 UZ:Df K "check_duel" "check_duel" IZ a.Ic ["game","call"]
 TB:mg "check_duel"=some (.ref a.Ic)
 Lp:Df K "accepted_answer" "accepted_answer" Ca a.DJ ["game","call","numbers","rows"]
 MG:mg "accepted_answer"=some (.ref a.DJ)
 RK:Df K "answer_call" "answer_call" HH a.Gk ["game","call","numbers","rows"]
 Q6:mg "answer_call"=some (.ref a.Gk)
 Q5:Df K "answer_next" "answer_next" HA a.GX ["game","reader"]
 RA:mg "answer_next"=some (.ref a.GX)
 Zo:Df K "answers" "answers" KU a.answers ["calls"]
 Zp:mg "answers"=some (.ref a.answers)
structure Tc (K:PySem.W.Frag)(mg:Str->Option Value)(a:Ad):Prop where
 Jy:Cls K a.Stream
 bV:Mk K a.Stream a.Gr
 bW:mg "Stream"=some (.ref a.Stream)
 EG:A4 K a.Stream "state"
 RW:Df K "__init__" "Stream.__init__" HV a.Gr ["self","seed","number"]
 Kt:Df K "draw_below" "Stream.draw_below" DA a.Cg ["self","bound"]
 Kr:Meth K a.Stream "draw_below" a.Cg
 AY:Cls K a.Ao
 Fj:Mk K a.Ao a.Gp
 Fl:mg "Spread"=some (.ref a.Ao)
 A5:A4 K a.Ao "least"
 Ab:A4 K a.Ao "counts"
 RQ:Df K "__init__" "Spread.__init__" HR a.Gp ["self","least","counts"]
 P2:Df K "rolls" "Spread.rolls" F8 a.FR ["self"]
 B9:Meth K a.Ao "rolls" a.FR
 MJ:Df K "rolls_at" "Spread.rolls_at" EB a.DN ["self","value"]
 GZ:Meth K a.Ao "rolls_at" a.DN
 Jx:Df K "rolls_below" "Spread.rolls_below" Ct a.CL ["self","value"]
 Ex:Meth K a.Ao "rolls_below" a.CL
 Kq:Df K "rolls_from" "Spread.rolls_from" C8 a.Cd ["self","value"]
 C7:Meth K a.Ao "rolls_from" a.Cd
 Co:Cls K a.B5
 bw:Mk K a.B5 a.GN
 bx:mg "Amount"=some (.ref a.B5)
 Ky:A4 K a.B5 "sign"
 CM:A4 K a.B5 "amount"
 Qr:Df K "__init__" "Amount.__init__" Gy a.GN ["self","sign","amount"]
 Qs:Df K "fits" "Amount.fits" Gz a.GO ["self"]
 Qo:Meth K a.B5 "fits" a.GO
 Mm:Df K "written" "Amount.written" EO a.Du ["self"]
 Ml:Meth K a.B5 "written" a.Du
 N1:Df K "spread" "Amount.spread" E4 a.Ei ["self"]
 N8:Meth K a.B5 "spread" a.Ei
 N3:Df K "rolled" "Amount.rolled" E5 a.Ej ["self","stream"]
 N9:Meth K a.B5 "rolled" a.Ej
 Bn:Cls K a.Dt
 bz:Mk K a.Dt a.KN
 b9:mg "Dice"=some (.ref a.Dt)
 NP:A4 K a.Dt "sign"
 Dk:A4 K a.Dt "dice"
 Dx:A4 K a.Dt "faces"
 Dl:A4 K a.Dt "kept"
 DK:A4 K a.Dt "greatest"
 VJ:Df K "__init__" "Dice.__init__" JP a.KN ["self","sign","dice","faces","kept","greatest"]
 WJ:Df K "fits" "Dice.fits" Jz a.Kc ["self"]
 VG:Meth K a.Dt "fits" a.Kc
 P9:Df K "written" "Dice.written" F9 a.FT ["self"]
 Ou:Meth K a.Dt "written" a.FT
 RN:Df K "spread" "Dice.spread" HQ a.Gn ["self"]
 Qz:Meth K a.Dt "spread" a.Gn
 RU:Df K "rolled" "Dice.rolled" HS a.Gq ["self","stream"]
 Q0:Meth K a.Dt "rolled" a.Gq
 E9:Cls K a.Table
 Ya:Mk K a.Table a.ID
 Yb:mg "Table"=some (.ref a.Table)
 Eg:A4 K a.Table "above"
 DB:A4 K a.Table "below"
 UB:Df K "__init__" "Table.__init__" IC a.ID ["self","above","below"]
 Kx:Cls K a.Act
 fq:Mk K a.Act a.L3
 fu:mg "Act"=some (.ref a.Act)
 JI:A4 K a.Act "heals"
 FA:A4 K a.Act "counts"
 XT:Df K "__init__" "Act.__init__" LL a.L3 ["self","heals","counts"]
 Vo:Df K "rolls" "Act.rolls" JZ a.KS ["self"]
 JH:Meth K a.Act "rolls" a.KS
 BA:Cls K a.Side
 cA:Mk K a.Side a.Kf
 cB:mg "Side"=some (.ref a.Side)
 CC:A4 K a.Side "most"
 BS:A4 K a.Side "acts"
 Bz:A4 K a.Side "common"
 Fu:A4 K a.Side "weights"
 WT:Df K "__init__" "Side.__init__" J8 a.Kf ["self","most"]
 QE:Df K "add_act" "Side.add_act" EC a.FW ["self","act"]
 Po:Meth K a.Side "add_act" a.FW
 MP:Df K "weights_of" "Side.weights_of" Ce a.DO ["self","act"]
 MQ:Meth K a.Side "weights_of" a.DO
 Ap:Cls K a.BB
 fA:Mk K a.BB a.Ie
 fB:mg "Fight"=some (.ref a.BB)
 Aq:A4 K a.BB "sides"
 B7:A4 K a.BB "tables"
 Ua:Df K "__init__" "Fight.__init__" Ia a.Ie ["self","first","second"]
 LD:Df K "check_room" "Fight.check_room" DV a.C0 ["self","who"]
 Fv:Meth K a.BB "check_room" a.C0
 JK:Df K "check_points" "Fight.check_points" Cm a.CH ["self","a","b"]
 Cj:Meth K a.BB "check_points" a.CH
 M8:Df K "take_act" "Fight.take_act" EW a.D6 ["self","who","act"]
 Hg:Meth K a.BB "take_act" a.D6
 Q4:Df K "table" "Fight.table" G9 a.GW ["self","turns","who"]
 Gx:Meth K a.BB "table" a.GW
 MR:Df K "new_table" "Fight.new_table" ED a.DP ["self","turns","who"]
 Lz:Meth K a.BB "new_table" a.DP
 Fb:Cls K a.EI
 jM:Mk K a.EI a.Kg
 jN:mg "Game"=some (.ref a.EI)
 BG:A4 K a.EI "fight"
 WU:Df K "__init__" "Game.__init__" J9 a.Kg ["self"]
 B8:Cls K a.Reader
 au:Mk K a.Reader a.Gs
 aw:mg "Reader"=some (.ref a.Reader)
 GC:A4 K a.Reader "calls"
 EH:A4 K a.Reader "place"
 RX:Df K "__init__" "Reader.__init__" HW a.Gs ["self","calls"]
 MS:Df K "has_more" "Reader.has_more" EE a.DQ ["self"]
 L4:Meth K a.Reader "has_more" a.DQ
 Iw:Df K "take_numbers" "Reader.take_numbers" CV a.B2 ["self","many"]
 Bl:Meth K a.Reader "take_numbers" a.B2
 MT:Df K "take_row" "Reader.take_row" EF a.DR ["self"]
 L1:Meth K a.Reader "take_row" a.DR
structure Te (K:PySem.W.Frag)(mg:Str->Option Value)(a:Ad):Prop where
 A7:mg "OutOfRange"=some (.ref a.BI)
 A8:PySem.W.excIn K a.BI Fg "Exception.__new__"=true
 EA:mg "NoDuel"=some (.ref a.Ed)
 DH:PySem.W.excIn K a.Ed Fg "Exception.__new__"=true
 CS:mg "NotDice"=some (.ref a.Br)
 Bp:PySem.W.excIn K a.Br Fg "Exception.__new__"=true
 A0:mg "NotWithinBounds"=some (.ref a.Ah)
 Aj:PySem.W.excIn K a.Ah Fg "Exception.__new__"=true
 CP:mg "TooManyActs"=some (.ref a.Au)
 BE:PySem.W.excIn K a.Au Fg "Exception.__new__"=true
 Et:mg "AboveMost"=some (.ref a.BV)
 Bc:PySem.W.excIn K a.BV Fg "Exception.__new__"=true
 Ln:mg "NoActs"=some (.ref a.DS)
 DE:PySem.W.excIn K a.DS Fg "Exception.__new__"=true
 Ju:mg "NoSuchAct"=some (.ref a.Bg)
 Bf:PySem.W.excIn K a.Bg Fg "Exception.__new__"=true
 K6:mg "AlreadyOver"=some (.ref a.BC)
 BF:PySem.W.excIn K a.BC Fg "Exception.__new__"=true
 Km:PySem.W.mroIn K a.Ed (.ref a.BI)=some false
 Jr:PySem.W.mroIn K a.Br (.ref a.BI)=some false
 NA:PySem.W.mroIn K a.Br (.ref a.Ed)=some false
 E8:PySem.W.mroIn K a.Ah (.ref a.BI)=some false
 HI:PySem.W.mroIn K a.Ah (.ref a.Ed)=some false
 GD:PySem.W.mroIn K a.Ah (.ref a.Br)=some false
 HJ:PySem.W.mroIn K a.Au (.ref a.BI)=some false
 Js:PySem.W.mroIn K a.Au (.ref a.Ed)=some false
 Ir:PySem.W.mroIn K a.Au (.ref a.Br)=some false
 Ez:PySem.W.mroIn K a.Au (.ref a.Ah)=some false
 IP:PySem.W.mroIn K a.BV (.ref a.BI)=some false
 LV:PySem.W.mroIn K a.BV (.ref a.Ed)=some false
 Kn:PySem.W.mroIn K a.BV (.ref a.Br)=some false
 FP:PySem.W.mroIn K a.BV (.ref a.Ah)=some false
 Hn:PySem.W.mroIn K a.BV (.ref a.Au)=some false
 Ko:PySem.W.mroIn K a.DS (.ref a.BI)=some false
 OD:PySem.W.mroIn K a.DS (.ref a.Ed)=some false
 NB:PySem.W.mroIn K a.DS (.ref a.Br)=some false
 HK:PySem.W.mroIn K a.DS (.ref a.Ah)=some false
 Jt:PySem.W.mroIn K a.DS (.ref a.Au)=some false
 LW:PySem.W.mroIn K a.DS (.ref a.BV)=some false
 IQ:PySem.W.mroIn K a.Bg (.ref a.BI)=some false
 LX:PySem.W.mroIn K a.Bg (.ref a.Ed)=some false
 Kp:PySem.W.mroIn K a.Bg (.ref a.Br)=some false
 FQ:PySem.W.mroIn K a.Bg (.ref a.Ah)=some false
 Ho:PySem.W.mroIn K a.Bg (.ref a.Au)=some false
 Iu:PySem.W.mroIn K a.Bg (.ref a.BV)=some false
 LY:PySem.W.mroIn K a.Bg (.ref a.DS)=some false
 HM:PySem.W.mroIn K a.BC (.ref a.BI)=some false
 Jv:PySem.W.mroIn K a.BC (.ref a.Ed)=some false
 Iv:PySem.W.mroIn K a.BC (.ref a.Br)=some false
 E1:PySem.W.mroIn K a.BC (.ref a.Ah)=some false
 GF:PySem.W.mroIn K a.BC (.ref a.Au)=some false
 Hq:PySem.W.mroIn K a.BC (.ref a.BV)=some false
 Jw:PySem.W.mroIn K a.BC (.ref a.DS)=some false
 Hr:PySem.W.mroIn K a.BC (.ref a.Bg)=some false
structure Tk (K:PySem.W.Frag)(mg:Str->Option Value)(a:Ad):Prop where
 NG:∃t,mg "MODULUS"=some (.int 18446744073709551616 t)
 je:∃t,mg "STEP"=some (.int 11400714819323198485 t)
 QF:∃t,mg "FIRST_FACTOR"=some (.int 13787848793156543929 t)
 OG:∃t,mg "SECOND_FACTOR"=some (.int 10723151780598845931 t)
 aJ:∃t,mg "PLUS"=some (.int 43 t)
 X6:∃t,mg "MINUS"=some (.int 45 t)
 jW:∃t,mg "ZERO"=some (.int 48 t)
 jX:∃t,mg "NINE"=some (.int 57 t)
 Xq:∃t,mg "LETTER_D"=some (.int 100 t)
 Xr:∃t,mg "LETTER_K"=some (.int 107 t)
 Xs:∃t,mg "LETTER_L"=some (.int 108 t)
 Q7:∃t,mg "MOST_POINTS"=some (.int 15 t)
 Fi:∃t,mg "FIRST_FIGHT_CALL"=some (.int 7 t)
 Ub:mg "DICE_CALLS"=some (.ref a.La)
 RY:mg "FIGHT_CALLS"=some (.ref a.KA)
 X7:mg "FORMS"=some (.ref a.Rx)
 DICE:KTab K a.La [(0,.ref a.Ea),(1,.ref a.Eb),(2,.ref a.Ec),(3,.ref a.Cu),(4,.ref a.Dd),(5,.ref a.EY),(6,.ref a.EZ)]
 lq:KTab K a.KA [(7,.ref a.Dg),(8,.ref a.ES),(9,.ref a.EU),(10,.ref a.EL),(11,.ref a.EM),(12,.ref a.EN),(13,.ref a.Dh)]
 Rx:∃vs:List (Int×Value),KTab K a.Rx vs/\hR K vs
 EJ:mg "len"=none
 Cc:mg "range"=none
 SU:mg "sum"=none
 Vs:mg "max"=none
 f6:mg "min"=none
 WV:mg "sorted"=none
 Xt:mg "reversed"=none
 jf:mg "list"=none
 fC:mg "tuple"=none
 Dj:mg "enumerate"=none
 kg:mg "str"=none
 ai:mg "ord"=none
 lQ:mg "abs"=none
 lr:mg "zip"=none
structure Tx (K:PySem.W.Frag)(mg:Str->Option Value)(a:Ad):Prop extends Tf K mg a,Tc K mg a,Te K mg a,Tk K mg a
def lK (σ:L2.St)(i:Nat):Nat:=match σ[i]? with
 |some (some (.int z))=>z.toNat
 |_=>0
section
variable {P:Program}{w:World}{K:PySem.W.Frag}{mg:Str->Option Value}{base:Heap}{a:Ad}
def lL:Sp:=fun vs H Q _=>∃m n:Nat,vs=[.int m,.int n]/\Q (.int (Nat.gcd m n:Nat)) H
theorem Yc:AL ["one","other","rest"] ["one","other"] (AG EV):=⟨rfl,rfl,rfl,by decide +kernel,rfl,by decide +kernel,by decide +kernel⟩
theorem gG (T:Tx K mg a):Fn P w K mg base CX0 1 a.D4 ["one","other"] lL:=by
 obtain⟨fd,F,hb⟩:=T.M5
 refine F.fn hb Yc (fun vs H Q E h=>?_) (fun cdv A outer s H vs Q E hr h=>?_)
 ·obtain⟨m,n,rfl,_⟩:=h
  rfl
 ·obtain⟨m,n,rfl,k⟩:=h
  refine⟨_,AD (VN PassesOwn.never (Ag Ih (pv 1) AH (Am _))
    (AD (AN (i:=2) Yc.nd rfl (Or.inl rfl) (AS LI (pv 0) (pv 1)))
    (AD (AN (i:=0) Yc.nd rfl (Or.inl rfl) (pv 1))
    (AF (AN (i:=1) Yc.nd rfl (Or.inl rfl) (pv 2))))))
   (AF (AO (pv 0))),?_⟩
  refine aT (fun σ H'=>∃(m' n':Nat) (r:Option V),σ=[some (.int m'),some (.int n'),r]/\Nat.gcd m' n'=Nat.gcd m n/\H'=H) (fun σ _=>lK σ 1) ⟨m,n,none,rfl,rfl,rfl⟩ ?_ ?_
  ·rintro σ H' ⟨m',n',r,rfl,hg,rfl⟩
   refine⟨_,rfl,_,_,rfl,rfl,_,rfl,?_⟩
   refine BY (fun hn=>?_) (fun hn=>?_)
   ·have hn:0<n':=by have:(0:Int)<(n':Int):=of_decide_eq_true hn;omega
    refine⟨_,rfl,_,rfl,_,_,rfl,rfl,(show(0:Int)<(n':Int)by omega),?_⟩
    refine⟨_,rfl,_,rfl,⟨n',m' % n',_,rfl,?_,rfl⟩,?_⟩
    ·rw[<-hg];exact Dm.bC m' n'
    ·show((m':Int) % (n':Int)).toNat<((n':Nat):Int).toNat
     have:=Nat.mod_lt m' hn
     have e:((m':Int) % (n':Int))=((m' % n':Nat):Int):=rfl
     rw[e];omega
   ·have z:n'=0:=by
     have:¬(0:Int)<(n':Int):=fun z=>hn (decide_eq_true z)
     omega
    subst z
    rw[Nat.gcd_zero_right]at hg
    subst hg
    exact⟨_,rfl,k⟩
  ·rintro σ H' Q1 Q2 hq ⟨v,e,i,j,e1,e2,b,e3,q⟩
   exact⟨v,e,i,j,e1,e2,b,e3,hq _ _ q⟩
def lM:Sp:=fun vs H Q _=>∃m n:Nat,vs=[.int m,.int n]/\0<m/\0<n/\Bd 4000 m/\Bd 4000 n/\Q (.int (Nat.lcm m n:Nat)) H
theorem lN:AL ["one","other"] ["one","other"] (AG D5):=⟨rfl,rfl,rfl,by decide +kernel,rfl,by decide +kernel,by decide +kernel⟩
theorem lO (T:Tx K mg a):Fn P w K mg base CX0 2 a.DL ["one","other"] lM:=by
 obtain⟨fd,F,hb⟩:=T.L6
 refine F.fn hb lN (fun vs H Q E h=>?_) (fun cdv A outer s H vs Q E hr h=>?_)
 ·obtain⟨m,n,rfl,_⟩:=h
  rfl
 ·obtain⟨m,n,rfl,hm,hn,bm,bn,k⟩:=h
  refine⟨_,AF (AO (AS BK (AS L5 (pv 0) (Ac (gG T) hr rfl T.Hh AU (AA (pv 0) (AA (pv 1) AE)))) (pv 1))),?_⟩
  have hg:0<Nat.gcd m n:=Nat.gcd_pos_of_pos_left n hm
  have hle:Nat.gcd m n<=m:=Nat.gcd_le_left n hm
  refine⟨_,rfl,_,rfl,_,rfl,m,n,rfl,_,_,rfl,rfl,(bm.mono hle).cd (by decide) hg,_,rfl,_,_,rfl,rfl,?_,?_⟩
  ·show CW ((m:Int) / (Nat.gcd m n:Nat)) (n:Int)
   have e:((m:Int) / (Nat.gcd m n:Nat))=((m / Nat.gcd m n:Nat):Int):=rfl
   rw[e]
   exact(bm.mono (Nat.div_le_self m _)).cw bn (by decide)
  ·have e:((m:Int) / (Nat.gcd m n:Nat))*(n:Int)=((Nat.lcm m n:Nat):Int):=by
    have e1:((m:Int) / (Nat.gcd m n:Nat))=((m / Nat.gcd m n:Nat):Int):=rfl
    rw[e1,<-Int.natCast_mul]
    congr 1
    unfold Nat.lcm
    rw[Nat.div_mul_right_comm (Nat.gcd_dvd_left m n)]
   show Q (V.int (((m:Int) / (Nat.gcd m n:Nat))*(n:Int))) H
   rw[e]
   exact k
def lP:Sp:=fun vs H Q _=>∃(x:Int) (d:Nat),vs=[.int x,.int d]/\0<d/\Bd 9000 d/\Ip H (iv (Vbrgag.frac x d)) Q
theorem gH:AL ["above","below","divisor"] ["above","below"] (AG Fw):=⟨rfl,rfl,rfl,by decide +kernel,rfl,by decide +kernel,by decide +kernel⟩
theorem Og (T:Tx K mg a):Fn P w K mg base CX0 2 a.FJ ["above","below"] lP:=by
 obtain⟨fd,F,hb⟩:=T.Pe
 refine F.fn hb gH (fun vs H Q E h=>?_) (fun cdv A outer s H vs Q E hr h=>?_)
 ·obtain⟨x,d,rfl,_⟩:=h
  rfl
 ·obtain⟨x,d,rfl,hd,bd,k⟩:=h
  refine⟨_,AD (AN (i:=2) gH.nd rfl (Or.inl rfl) (Ac (gG T) hr rfl T.Hh AU (AA (AZ aU rfl T.lQ jO (AA (pv 0) AE)) (AA (pv 1) AE))))
   (AF (AO (An (AA (AS L5 (pv 0) (pv 2)) (AA (AS L5 (pv 1) (pv 2)) AE))))),?_⟩
  have hg:0<Nat.gcd x.natAbs d:=Nat.gcd_pos_of_pos_right _ hd
  have hle:Nat.gcd x.natAbs d<=d:=Nat.gcd_le_right _ hd
  have ea:(if x<0 then -x else x)=((x.natAbs:Nat):Int):=by
   by_cases h:x<0
   ·rw[if_pos h];omega
   ·rw[if_neg h];omega
  refine⟨_,rfl,x,rfl,_,rfl,x.natAbs,d,by rw[ea],?_⟩
  refine⟨_,rfl,_,rfl,_,_,rfl,rfl,(bd.mono hle).cd (by decide) hg,_,rfl,_,rfl,_,_,rfl,rfl,(bd.mono hle).cd (by decide) hg,(by show 2<=sizeLine;decide),fun l hl=>?_⟩
  have q:=k.upd (AK.refl H) hl
  rw[Dm.X4 x d (by omega)]at q
  exact q
end
theorem U2 (x k d:Nat)(h:2 ^ k=d):Builtin.bitXor (x:Int) ((x:Int) / 2 ^ ((k:Nat):Int).toNat)=((x ^^^ (x / d):Nat):Int):=by
 have e:(x:Int) / 2 ^ ((k:Nat):Int).toNat=((x / d:Nat):Int):=by
  rw[Int.toNat_natCast,<-h,Int.natCast_ediv,Int.natCast_pow]
  rfl
 rw[e,ke.ZO (Int.natCast_nonneg _) (Int.natCast_nonneg _),Int.toNat_natCast,Int.toNat_natCast]
theorem MZ (n f:Nat):(n:Int)*(f:Int) % (Vbrgag.MOD:Int)=((n*f % Vbrgag.MOD:Nat):Int):=by
 rw[Int.natCast_emod,Int.natCast_mul]
section
variable {P:Program}{w:World}{K:PySem.W.Frag}{mg:Str->Option Value}{base:Heap}{a:Ad}
def X0:Sp:=fun vs H Q _=>∃x:Nat,vs=[.int x]/\Q (.int (Vbrgag.mix x:Nat)) H
theorem Lj:AL ["x","a","b"] ["x"] (AG ND):=⟨rfl,rfl,rfl,by decide +kernel,rfl,by decide +kernel,by decide +kernel⟩
theorem Lk (T:Tx K mg a):Fn P w K mg base CX0 1 a.Oe ["x"] X0:=by
 obtain⟨fd,F,hb⟩:=T.Zn
 obtain⟨t1,h1⟩:=T.QF
 obtain⟨t2,h2⟩:=T.OG
 obtain⟨t3,h3⟩:=T.NG
 refine F.fn hb Lj (fun vs H Q E h=>?_) (fun cdv A outer s H vs Q E hr h=>?_)
 ·obtain⟨x,rfl,_⟩:=h
  rfl
 ·obtain⟨x,rfl,k⟩:=h
  refine⟨_,AD (AN (i:=1) Lj.nd rfl (Or.inl rfl) (AS LI (AS Ta (AS W6 (pv 0) (AS Tb (pv 0) AH)) (A6 (v:=.int 13787848793156543929) rfl h1 ⟨t1,rfl⟩)) (A6 (v:=.int 18446744073709551616) rfl h3 ⟨t3,rfl⟩)))
   (AD (AN (i:=2) Lj.nd rfl (Or.inl rfl) (AS LI (AS Ta (AS W6 (pv 1) (AS Tb (pv 1) AH)) (A6 (v:=.int 10723151780598845931) rfl h2 ⟨t2,rfl⟩)) (A6 (v:=.int 18446744073709551616) rfl h3 ⟨t3,rfl⟩)))
   (AF (AO (AS W6 (pv 2) (AS Tb (pv 2) AH))))),?_⟩
  refine⟨_,rfl,_,rfl,_,_,rfl,rfl,(show(0:Int)<=30 by decide),_,_,rfl,rfl,_,_,rfl,rfl,Or.inr ⟨by decide,by decide⟩,_,_,rfl,rfl,(show(0:Int)<18446744073709551616 by decide),?_⟩
  have e1:Builtin.bitXor (x:Int) ((x:Int) / 2 ^ (30:Int).toNat)*13787848793156543929 % 18446744073709551616=(((x ^^^ (x / 1073741824))*13787848793156543929 % Vbrgag.MOD:Nat):Int):=by
   have:=U2 x 30 1073741824 (by decide)
   rw[show((30:Nat):Int).toNat=(30:Int).toNat from rfl]at this
   rw[this]
   exact MZ _ 13787848793156543929
  set_option simprocs false in dsimp only
  rw[e1]
  generalize hy:(x ^^^ (x / 1073741824))*13787848793156543929 % Vbrgag.MOD=y
  refine⟨_,rfl,_,rfl,_,_,rfl,rfl,(show(0:Int)<=27 by decide),_,_,rfl,rfl,_,_,rfl,rfl,Or.inr ⟨by decide,by decide⟩,_,_,rfl,rfl,(show(0:Int)<18446744073709551616 by decide),?_⟩
  have e2:Builtin.bitXor (y:Int) ((y:Int) / 2 ^ (27:Int).toNat)*10723151780598845931 % 18446744073709551616=(((y ^^^ (y / 134217728))*10723151780598845931 % Vbrgag.MOD:Nat):Int):=by
   have:=U2 y 27 134217728 (by decide)
   rw[show((27:Nat):Int).toNat=(27:Int).toNat from rfl]at this
   rw[this]
   exact MZ _ 10723151780598845931
  set_option simprocs false in dsimp only
  rw[e2]
  generalize hz:(y ^^^ (y / 134217728))*10723151780598845931 % Vbrgag.MOD=z
  refine⟨_,rfl,_,rfl,_,_,rfl,rfl,(show(0:Int)<=31 by decide),_,_,rfl,rfl,?_⟩
  have e3:Builtin.bitXor (z:Int) ((z:Int) / 2 ^ (31:Int).toNat)=((z ^^^ (z / 2147483648):Nat):Int):=by
   have:=U2 z 31 2147483648 (by decide)
   rw[show((31:Nat):Int).toNat=(31:Int).toNat from rfl]at this
   exact this
  set_option simprocs false in dsimp only
  rw[e3]
  have em:Vbrgag.mix x=z ^^^ (z / 2147483648):=by
   unfold Vbrgag.mix
   dsimp only
   rw[hy,hz]
  rw[em]at k
  exact k
def Kk (a:Ad)(H:Hp)(x:Addr)(s:Nat):Prop:=Bt H x a.Stream [("state",.int s)]
theorem Kk.same (h:Kk a H x s)(e:AK H H'):Kk a H' x s:=Bt.same h e
def Qc (a:Ad):Sp:=fun vs H Q _=>∃(x dx:Addr) (z k:Nat),vs=[.ref x,.int z,.int k]/\H x=some (.ins a.Stream dx [])/\∀H',Kk a H' x (Vbrgag.stream z k)->But x H H'->Q .non H'
theorem Qe:AL ["self","seed","number"] ["self","seed","number"] (AG HV):=⟨rfl,rfl,rfl,by decide +kernel,rfl,by decide +kernel,by decide +kernel⟩
theorem Ma (n f:Nat):((n:Int)+(f:Int)) % (18446744073709551616:Int)=(((n+f) % Vbrgag.MOD:Nat):Int):=by
 rw[Int.natCast_emod,Int.natCast_add]
 rfl
theorem Pt (T:Tx K mg a):Fn P w K mg base CX0 2 a.Gr ["self","seed","number"] (Qc a):=by
 obtain⟨fd,F,hb⟩:=T.RW
 obtain⟨t3,h3⟩:=T.NG
 refine F.fn hb Qe (fun vs H Q E h=>?_) (fun cdv A outer s H vs Q E hr h=>?_)
 ·obtain⟨x,dx,z,k,rfl,_⟩:=h
  rfl
 ·obtain⟨x,dx,z,k,rfl,hx,kk⟩:=h
  refine⟨_,AF (BH (pv 0) (Ac (Lk T) hr rfl T.NF AU (AA (AS LI (AS Ba (Ac (Lk T) hr rfl T.NF AU (AA (pv 1) AE)) (pv 2)) (A6 (v:=.int 18446744073709551616) rfl h3 ⟨t3,rfl⟩)) AE)) rfl),?_⟩
  refine⟨_,rfl,z,rfl,_,rfl,_,_,rfl,rfl,_,_,rfl,rfl,(show(0:Int)<18446744073709551616 by decide),?_⟩
  refine⟨(Vbrgag.mix z+k) % Vbrgag.MOD,?_,?_⟩
  ·try set_option simprocs false in dsimp only
   rw[Ma]
  ·refine⟨_,rfl,x,a.Stream,dx,[],rfl,hx,T.Jy,T.EG,(by show 0<1000;decide),?_⟩
   exact kk _ ⟨dx,by rw[AB,BP];unfold Vbrgag.stream;rfl⟩ But.upd
def fM (a:Ad):Sp:=fun vs H Q _=>∃(x:Addr) (s n:Nat),vs=[.ref x,.int n]/\Kk a H x s/\0<n/\∀H',Kk a H' x (Vbrgag.nextOf s)->But x H H'->Q (.int (Vbrgag.drawn (Vbrgag.nextOf s) n:Nat)) H'
theorem fN:AL ["self","bound"] ["self","bound"] (AG DA):=⟨rfl,rfl,rfl,by decide +kernel,rfl,by decide +kernel,by decide +kernel⟩
theorem eX (T:Tx K mg a):Fn P w K mg base CX0 2 a.Cg ["self","bound"] (fM a):=by
 obtain⟨fd,F,hb⟩:=T.Kt
 obtain⟨t3,h3⟩:=T.NG
 obtain⟨t4,h4⟩:=T.je
 refine F.fn hb fN (fun vs H Q E h=>?_) (fun cdv A outer s H vs Q E hr h=>?_)
 ·obtain⟨x,s,n,rfl,_⟩:=h
  rfl
 ·obtain⟨x,s1,n,rfl,⟨dx,hx⟩,hn,kk⟩:=h
  refine⟨_,AD (BH (pv 0) (AS LI (AS Ba (AJ (pv 0) rfl) (A6 (v:=.int 11400714819323198485) rfl h4 ⟨t4,rfl⟩)) (A6 (v:=.int 18446744073709551616) rfl h3 ⟨t3,rfl⟩)) rfl)
   (AF (AO (AS LI (AS Tb (Ac (Lk T) hr rfl T.NF AU (AA (AJ (pv 0) rfl) AE)) AH) (pv 1)))),?_⟩
  refine⟨_,rfl,x,a.Stream,dx,_,_,rfl,hx,T.Jy,T.EG,rfl,_,_,rfl,rfl,_,_,rfl,rfl,(show(0:Int)<18446744073709551616 by decide),?_⟩
  have e1:((s1:Int)+11400714819323198485) % (18446744073709551616:Int)=((Vbrgag.nextOf s1:Nat):Int):=Ma s1 11400714819323198485
  set_option simprocs false in dsimp only
  rw[e1]
  generalize hq:Vbrgag.nextOf s1=s2 at kk
  refine⟨_,rfl,x,a.Stream,dx,_,rfl,hx,T.Jy,T.EG,(by show 1<1000;decide),?_⟩
  refine⟨_,rfl,x,a.Stream,dx,_,_,rfl,AB,T.Jy,T.EG,?_,s2,rfl,_,_,rfl,rfl,(show(0:Int)<=33 by decide),_,rfl,_,_,rfl,rfl,(show(0:Int)<(n:Int)by omega),?_⟩
  ·rw[IE];rfl
  ·have e2:((Vbrgag.mix s2:Nat):Int) / 2 ^ (33:Int).toNat % (n:Int)=((Vbrgag.drawn s2 n:Nat):Int):=by
    unfold Vbrgag.drawn
    rw[Int.natCast_emod,Int.natCast_ediv]
    rfl
   set_option simprocs false in dsimp only
   rw[e2]
   exact kk _ ⟨dx,by rw[AB,IE]⟩ But.upd
end
theorem MH (xs:List V)(k:Nat):Kj xs none (some (k:Int))=xs.take k:=by
 unfold Kj
 rw[HT.VR,HT.OX,List.drop_zero,Nat.sub_zero]
 by_cases h:k<=xs.length
 ·rw[Nat.min_eq_left h]
 ·rw[Nat.min_eq_right (by omega),List.take_of_length_le (Nat.le_refl _),List.take_of_length_le (by omega)]
theorem MI (xs:List V)(k:Nat):Kj xs (some (k:Int)) none=xs.drop k:=by
 unfold Kj
 rw[HT.VR,HT.OX]
 by_cases h:k<=xs.length
 ·rw[Nat.min_eq_left h,List.take_of_length_le (by rw[List.length_drop];exact Nat.le_refl _)]
 ·rw[Nat.min_eq_right (by omega),Nat.sub_self,List.take_zero,List.drop_of_length_le (by omega)]
theorem eU (xs:List V)(i j:Nat):Kj xs (some (i:Int)) (some (j:Int))=(xs.drop i).take (j - i):=by
 unfold Kj
 rw[HT.OX,HT.OX]
 by_cases h:i<=xs.length
 ·rw[Nat.min_eq_left h]
  by_cases h2:j<=xs.length
  ·rw[Nat.min_eq_left h2]
  ·rw[Nat.min_eq_right (by omega),List.take_of_length_le (by rw[List.length_drop];exact Nat.le_refl _),List.take_of_length_le (by rw[List.length_drop];omega)]
 ·rw[List.drop_of_length_le (by omega),List.drop_of_length_le (l:=xs) (i:=i) (by omega),List.take_nil,List.take_nil]
theorem Yq (l:List Nat)(k:Nat):(nv l).take k=nv (l.take k):=by unfold nv;rw[List.map_take,List.map_take]
theorem Yr (l:List Nat)(k:Nat):(nv l).drop k=nv (l.drop k):=by unfold nv;rw[List.map_drop,List.map_drop]
theorem d7 (z:Int):(if z>0 then z else 0)=((z.toNat:Nat):Int):=by
 by_cases h:z>0
 ·rw[if_pos h];omega
 ·rw[if_neg h];omega
def DX (a:Ad)(H:Hp)(p:Addr)(d:Vbrgag.Dist):Prop:=∃c,Bt H p a.Ao [("least",.int d.low),("counts",.ref c)]/\H c=some (.lst (nv d.counts))
theorem DX.same (h:DX a H p d)(s:AK H H'):DX a H' p d:=
 let⟨c,i,e⟩:=h
 ⟨c,i.same s,s _ _ e⟩
section
variable {P:Program}{w:World}{K:PySem.W.Frag}{mg:Str->Option Value}{base:Heap}{a:Ad}
def P0 (a:Ad):Sp:=fun vs H Q _=>∃x dx v1 v2,vs=[.ref x,v1,v2]/\H x=some (.ins a.Ao dx [])/\∀H',H' x=some (.ins a.Ao dx [("least",v1),("counts",v2)])->But x H H'->Q .non H'
theorem P1:AL ["self","least","counts"] ["self","least","counts"] (AG HR):=⟨rfl,rfl,rfl,by decide +kernel,rfl,by decide +kernel,by decide +kernel⟩
theorem Bj (T:Tx K mg a):Fn P w K mg base CX0 1 a.Gp ["self","least","counts"] (P0 a):=by
 obtain⟨fd,F,hb⟩:=T.RQ
 refine F.fn hb P1 (fun vs H Q E h=>?_) (fun cdv A outer s H vs Q E hr h=>?_)
 ·obtain⟨x,dx,v1,v2,rfl,_⟩:=h
  rfl
 ·obtain⟨x,dx,v1,v2,rfl,hx,k⟩:=h
  refine⟨_,AD (BH (pv 0) (pv 1) rfl) (AF (BH (pv 0) (pv 2) rfl)),?_⟩
  refine⟨_,rfl,_,rfl,x,a.Ao,dx,[],rfl,hx,T.AY,T.A5,(by show 0<1000;decide),?_⟩
  refine⟨_,rfl,_,rfl,x,a.Ao,dx,_,rfl,AB,T.AY,T.Ab,(by show 1<1000;decide),?_⟩
  exact k _ (by rw[AB,BP,Ak (by decide),BP]) (But.upd.trans But.upd)
def bo (a:Ad):Sp:=fun vs H Q _=>∃p d,vs=[.ref p]/\DX a H p d/\Q (.int (d.total:Nat)) H
theorem bp:AL ["self"] ["self"] (AG F8):=⟨rfl,rfl,rfl,by decide +kernel,rfl,by decide +kernel,by decide +kernel⟩
theorem He (T:Tx K mg a):Fn P w K mg base CX0 1 a.FR ["self"] (bo a):=by
 obtain⟨fd,F,hb⟩:=T.P2
 refine F.fn hb bp (fun vs H Q E h=>?_) (fun cdv A outer s H vs Q E hr h=>?_)
 ·obtain⟨p,d,rfl,_⟩:=h
  rfl
 ·obtain⟨p,d,rfl,⟨c,⟨dx,hp⟩,hc⟩,k⟩:=h
  refine⟨_,AF (AO (AZ (O5 rfl) rfl T.SU My (AA (AJ (pv 0) rfl) AE))),?_⟩
  refine⟨_,rfl,p,a.Ao,dx,_,_,rfl,hp,T.AY,T.Ab,rfl,c,_,rfl,SqL.of hc,?_⟩
  rw[Ja,<-Dm.B1]
  exact k
def WH (a:Ad):Sp:=fun vs H Q _=>∃p d v,vs=[.ref p,.int v]/\DX a H p d/\Q (.int (d.at_ v:Nat)) H
theorem Nu:AL ["self","value","place"] ["self","value"] (AG EB):=⟨rfl,rfl,rfl,by decide +kernel,rfl,by decide +kernel,by decide +kernel⟩
theorem Ni (T:Tx K mg a):Fn P w K mg base CX0 1 a.DN ["self","value"] (WH a):=by
 obtain⟨fd,F,hb⟩:=T.MJ
 refine F.fn hb Nu (fun vs H Q E h=>?_) (fun cdv A outer s H vs Q E hr h=>?_)
 ·obtain⟨p,d,v,rfl,_⟩:=h
  rfl
 ·obtain⟨p,d,v,rfl,⟨c,⟨dx,hp⟩,hc⟩,k⟩:=h
  refine⟨_,AD (AN (i:=2) Nu.nd rfl (Or.inl rfl) (AS Bm (pv 1) (AJ (pv 0) rfl)))
   (AD (BR (Ew EK X9 AH (pv 2) (AZ Ai rfl T.EJ CU (AA (AJ (pv 0) rfl) AE)))
    (AF (AO (Aa AR (AJ (pv 0) rfl) (pv 2) (fun _ _=>rfl)))) Al)
   (AF (AO AH))),?_⟩
  refine⟨_,rfl,_,rfl,p,a.Ao,dx,_,_,rfl,hp,T.AY,T.A5,rfl,_,_,rfl,rfl,?_⟩
  refine⟨_,rfl,_,_,rfl,rfl,_,rfl,?_⟩
  unfold Vbrgag.Dist.at_ at k
  refine BY (fun h0=>?_) (fun h0=>?_)
  ·have h0:(0:Int)<=v - d.low:=of_decide_eq_true h0
   rw[if_neg (by omega)]at k
   refine⟨_,rfl,p,a.Ao,dx,_,_,rfl,hp,T.AY,T.Ab,rfl,c,_,rfl,.inl (SqL.of hc),_,_,rfl,rfl,_,rfl,?_⟩
   refine BY (fun h1=>?_) (fun h1=>?_)
   ·have h1:v - d.low<(((nv d.counts).length:Nat):Int):=of_decide_eq_true h1
    rw[Ar]at h1
    have hlt:(v - d.low).toNat<d.counts.length:=by omega
    have hz:d.counts[(v - d.low).toNat]? =some (d.counts.getD (v - d.low).toNat 0):=by
     rw[List.getD_eq_getElem?_getD,List.getElem?_eq_getElem hlt];rfl
    refine⟨_,rfl,p,a.Ao,dx,_,_,rfl,hp,T.AY,T.Ab,rfl,_,rfl,c,_,_,_,rfl,rfl,SqL.of hc,at_of (j:=(v - d.low).toNat) (by omega) (NN hz),k⟩
   ·have h1:¬v - d.low<(((nv d.counts).length:Nat):Int):=fun z=>h1 (decide_eq_true z)
    rw[Ar]at h1
    have hz:d.counts.getD (v - d.low).toNat 0=0:=by
     rw[List.getD_eq_getElem?_getD,List.getElem?_eq_none (by omega)];rfl
    rw[hz]at k
    exact k
  ·have h0:¬(0:Int)<=v - d.low:=fun z=>h0 (decide_eq_true z)
   rw[if_pos (by omega)]at k
   exact⟨_,rfl,N6 k⟩
def P4 (a:Ad):Sp:=fun vs H Q _=>∃p d v,vs=[.ref p,.int v]/\DX a H p d/\∀H',AK H H'->Q (.int (Dm.below d v:Nat)) H'
theorem P5:AL ["self","value"] ["self","value"] (AG Ct):=⟨rfl,rfl,rfl,by decide +kernel,rfl,by decide +kernel,by decide +kernel⟩
theorem Jb (T:Tx K mg a):Fn P w K mg base CX0 1 a.CL ["self","value"] (P4 a):=by
 obtain⟨fd,F,hb⟩:=T.Jx
 refine F.fn hb P5 (fun vs H Q E h=>?_) (fun cdv A outer s H vs Q E hr h=>?_)
 ·obtain⟨p,d,v,rfl,_⟩:=h
  rfl
 ·obtain⟨p,d,v,rfl,⟨c,⟨dx,hp⟩,hc⟩,k⟩:=h
  refine⟨_,AF (AO (AZ (O5 rfl) rfl T.SU My (AA (Dy FD (AJ (pv 0) rfl) GQ (Ek (AZ (KO rfl) rfl T.Vs Pa (AA AH (AA (AS Bm (pv 1) (AJ (pv 0) rfl)) AE))))) AE))),?_⟩
  refine⟨_,rfl,p,a.Ao,dx,_,_,rfl,hp,T.AY,T.Ab,rfl,_,rfl,_,rfl,p,a.Ao,dx,_,_,rfl,hp,T.AY,T.A5,rfl,_,_,rfl,rfl,_,_,rfl,_,rfl,c,_,rfl,SqL.of hc,fun q hq=>?_⟩
  rw[d7,MH,Yq]
  refine⟨q,_,rfl,SqL.of AB,?_⟩
  rw[Ja,<-Dm.B1]
  exact k _ (.new hq)
def RR (a:Ad):Sp:=fun vs H Q _=>∃p d v,vs=[.ref p,.int v]/\DX a H p d/\∀H',AK H H'->Q (.int (Vbrgag.atLeast d v:Nat)) H'
theorem RS:AL ["self","value"] ["self","value"] (AG C8):=⟨rfl,rfl,rfl,by decide +kernel,rfl,by decide +kernel,by decide +kernel⟩
theorem HB (T:Tx K mg a):Fn P w K mg base CX0 1 a.Cd ["self","value"] (RR a):=by
 obtain⟨fd,F,hb⟩:=T.Kq
 refine F.fn hb RS (fun vs H Q E h=>?_) (fun cdv A outer s H vs Q E hr h=>?_)
 ·obtain⟨p,d,v,rfl,_⟩:=h
  rfl
 ·obtain⟨p,d,v,rfl,⟨c,⟨dx,hp⟩,hc⟩,k⟩:=h
  refine⟨_,AF (AO (AZ (O5 rfl) rfl T.SU My (AA (Dy FD (AJ (pv 0) rfl) (Ek (AZ (KO rfl) rfl T.Vs Pa (AA AH (AA (AS Bm (pv 1) (AJ (pv 0) rfl)) AE)))) GQ) AE))),?_⟩
  refine⟨_,rfl,p,a.Ao,dx,_,_,rfl,hp,T.AY,T.Ab,rfl,_,rfl,_,rfl,p,a.Ao,dx,_,_,rfl,hp,T.AY,T.A5,rfl,_,_,rfl,rfl,_,_,rfl,_,rfl,c,_,rfl,SqL.of hc,fun q hq=>?_⟩
  rw[d7,MI,Yr]
  refine⟨q,_,rfl,SqL.of AB,?_⟩
  rw[Ja,<-Dm.B1]
  exact k _ (.new hq)
end
theorem DZ {l:List Nat}{i x:Nat}(h:l[i]? =some x):x<=l.sum:=by
 induction l generalizing i with
 |nil=>simp at h
 |cons a r ih=>
  rw[List.sum_cons]
  cases i with
  |zero=>have e:a=x:=Option.some.inj h;omega
  |succ i=>have:=ih (i:=i) h;omega
theorem WD (n:Nat):(List.replicate n [V.int 0]).flatten=nv (List.replicate n 0):=by
 unfold nv
 induction n with
 |zero=>rfl
 |succ n ih=>rw[List.replicate_succ,List.flatten_cons,ih,List.replicate_succ,List.map_cons,List.map_cons];rfl
theorem eV (n:Nat):(List.replicate n [V.int 1]).flatten=nv (List.replicate n 1):=by
 unfold nv
 induction n with
 |zero=>rfl
 |succ n ih=>rw[List.replicate_succ,List.flatten_cons,ih,List.replicate_succ,List.map_cons,List.map_cons];rfl
theorem XU (l:List Nat)(i x:Nat):(nv l).set i (.int (x:Int))=nv (l.set i x):=by
 unfold nv
 rw[List.map_set,List.map_set]
theorem T7 (h:j<n):ixN n (j:Int)=some j:=by
 unfold ixN
 rw[if_pos (by omega),if_pos (by omega),Int.toNat_natCast]
theorem getD_at {l:List Nat}{i:Nat}(h:i<l.length):l[i]? =some (l.getD i 0):=by
 rw[List.getD_eq_getElem?_getD,List.getElem?_eq_getElem h];rfl
section
variable {P:Program}{w:World}{K:PySem.W.Frag}{mg:Str->Option Value}{base:Heap}{a:Ad}
structure KR (d:Vbrgag.Dist):Prop where
 some:Dm.FZ d
 bd:Bd 4000 d.total
 len:d.counts.length<=10000
def PF (a:Ad):Sp:=fun vs H Q _=>∃p q d e,vs=[.ref p,.ref q]/\DX a H p d/\DX a H q e/\KR d/\KR e/\∀r H',AK H H'->DX a H' r (Vbrgag.sumOf d e)->Q (.ref r) H'
theorem WI:AL ["one","other","sums","i","ways","j","other_ways"] ["one","other"] (AG UR):=⟨rfl,rfl,rfl,by decide +kernel,rfl,by decide +kernel,by decide +kernel⟩
theorem Vh (T:Tx K mg a):Fn P w K mg base CX0 3 a.added ["one","other"] (PF a):=by
 obtain⟨fd,F,hb⟩:=T.eW
 refine F.fn hb WI (fun vs H Q E h=>?_) (fun cdv A outer s H vs Q E hr h=>?_)
 ·obtain⟨p,q,d,e,rfl,_⟩:=h
  rfl
 ·obtain⟨p,q,d,e,rfl,⟨c1,⟨dx1,hp⟩,hc1⟩,⟨c2,⟨dx2,hq⟩,hc2⟩,Ad1,Ad2,k⟩:=h
  have nd:=WI.nd
  refine⟨_,AD (AN (i:=2) nd rfl (Or.inl rfl) (AS XF (An (AA AH AE)) (AS Bm (AS Ba (AZ Ai rfl T.EJ CU (AA (AJ (pv 0) rfl) AE)) (AZ Ai rfl T.EJ CU (AA (AJ (pv 1) rfl) AE))) AH)))
   (AD (BD PassesOwn.never rfl (KJ rfl T.Dj (AA (AJ (pv 0) rfl) AE)) (Hw rfl (BL (AX (i:=3) nd rfl (Or.inl rfl)) (BL (AX (i:=4) nd rfl (Or.inl rfl)) FC)))
    (AF (BD PassesOwn.never rfl (KJ rfl T.Dj (AA (AJ (pv 1) rfl) AE)) (Hw rfl (BL (AX (i:=5) nd rfl (Or.inl rfl)) (BL (AX (i:=6) nd rfl (Or.inl rfl)) FC)))
     (AF (TY (pv 2) (AS Ba (pv 3) (pv 5)) PN (AS BK (pv 4) (pv 6)) G6 set_list)))))
   (AF (AO (Dv T.Fj (Bj T) hr rfl T.Fl AU (AA (AS Ba (AJ (pv 0) rfl) (AJ (pv 1) rfl)) (AA (pv 2) AE)))))),?_⟩
  refine⟨(by show 1<=sizeLine;decide),fun l hl=>?_⟩
  have s1:AK H (upd H l (.lst [.int 0])):=.new hl
  refine⟨_,rfl,p,a.Ao,dx1,_,_,rfl,s1 _ _ hp,T.AY,T.Ab,rfl,c1,_,rfl,.inl (SqL.of (s1 _ _ hc1)),?_⟩
  refine⟨_,rfl,q,a.Ao,dx2,_,_,rfl,s1 _ _ hq,T.AY,T.Ab,rfl,c2,_,rfl,.inl (SqL.of (s1 _ _ hc2)),?_⟩
  have l1:=Ad1.len
  have l2:=Ad2.len
  have g1:1<=d.counts.length:=Ad1.some
  have g2:1<=e.counts.length:=Ad2.some
  have hs:sizeLine=16777216:=sizeLine_eq
  refine⟨_,_,rfl,rfl,_,_,rfl,rfl,l,_,_,rfl,rfl,AB,?_,?_,?_,fun m hm=>?_⟩
  ·rw[Ar,Ar];omega
  ·rw[Ar,Ar];omega
  ·rw[Ar,Ar];show 1*_<=_;omega
  have em:((((nv d.counts).length:Nat):Int)+(((nv e.counts).length:Nat):Int) - 1).toNat=d.counts.length+e.counts.length - 1:=by rw[Ar,Ar];omega
  rw[em,WD]
  have s2:AK H (upd (upd H l (.lst [.int 0])) m (.lst (nv (List.replicate (d.counts.length+e.counts.length - 1) 0)))):=s1.trans (.new hm)
  have hm0:H m=none:=s1.free hm
  refine⟨_,rfl,p,a.Ao,dx1,_,_,rfl,s2 _ _ hp,T.AY,T.Ab,rfl,c1,_,rfl,SqL.of (s2 _ _ hc1),HX (K:=K) (a:=c1) (xs:=nv d.counts)
   (fun i σ H'=>∃(v3 v4 v5 v6:Option V) (z:List Nat),σ=[some (.ref p),some (.ref q),some (.ref m),v3,v4,v5,v6]/\AK H H'/\H' m=some (.lst (nv z))/\Dm.Adding d.counts e.counts i 0 z)
   ⟨none,none,none,none,_,rfl,s2,AB,Dm.Adding.start d.counts e.counts⟩ (fun i σ H' _ ⟨_,_,_,_,_,_,s3,_⟩=>SqL.of (s3 _ _ hc1)) ?_ ?_⟩
  ·rintro i x σ H' T1 hi ⟨v3,v4,v5,v6,z,rfl,s3,hz,hA⟩ hT1
   obtain⟨y,hy,rfl⟩:=NO hi
   refine⟨T1,_,rfl,SqT.of AB,rfl,_,_,rfl,_,_,rfl,rfl,?_⟩
   have s4:AK H (upd H' T1 (.tup [.int (i:Nat),.int y])):=s3.trans (.new hT1)
   have hz4:(upd H' T1 (.tup [.int (i:Nat),.int y])) m=some (.lst (nv z)):=by rw[AI (AM hz hT1)];exact hz
   refine⟨_,rfl,q,a.Ao,dx2,_,_,rfl,s4 _ _ hq,T.AY,T.Ab,rfl,c2,_,rfl,SqL.of (s4 _ _ hc2),HX (K:=K) (a:=c2) (xs:=nv e.counts)
    (fun j σ H'=>∃(v5 v6:Option V) (z:List Nat),σ=[some (.ref p),some (.ref q),some (.ref m),some (.int (i:Nat)),some (.int y),v5,v6]/\AK H H'/\H' m=some (.lst (nv z))/\Dm.Adding d.counts e.counts i j z)
    ⟨v5,v6,z,rfl,s4,hz4,hA⟩ (fun i σ H' _ ⟨_,_,_,_,s3,_⟩=>SqL.of (s3 _ _ hc2)) ?_ ?_⟩
   ·rintro j x' σ H2 T2 hj ⟨v5',v6',z',rfl,s5,hz5,hA5⟩ hT2
    obtain⟨y',hy',rfl⟩:=NO hj
    refine⟨T2,_,rfl,SqT.of AB,rfl,_,_,rfl,_,_,rfl,rfl,?_⟩
    have hz6:(upd H2 T2 (.tup [.int (j:Nat),.int y'])) m=some (.lst (nv z')):=by rw[AI (AM hz5 hT2)];exact hz5
    have hi':=(List.getElem?_eq_some_iff.mp hy).1
    have hj':=(List.getElem?_eq_some_iff.mp hy').1
    have hlt:i+j<z'.length:=by rw[hA5.len];omega
    refine⟨_,rfl,_,rfl,_,rfl,_,_,rfl,rfl,m,_,i+j,_,rfl,rfl,SqL.of hz6,NN (getD_at hlt),_,rfl,_,rfl,_,_,rfl,rfl,?_,_,_,rfl,rfl,m,_,_,i+j,rfl,rfl,hz6,?_,?_⟩
    ·exact(Ad1.bd.mono (by unfold Vbrgag.Dist.total;rw[Dm.B1];exact DZ hy)).cw (Ad2.bd.mono (by unfold Vbrgag.Dist.total;rw[Dm.B1];exact DZ hy')) (by decide)
    ·rw[Ar];exact T7 hlt
    ·refine⟨_,_,_,rfl,?_,?_,hA5.step hy hy'⟩
     ·exact fun b o eb=>by
       have nb:b≠m:=fun z=>by rw[z,hm0]at eb;cases eb
       rw[AI nb]
       exact(s5.trans (.new hT2)) b o eb
     ·rw[AB]
      have:((z'.getD (i+j) 0:Nat):Int)+(y:Int)*(y':Int)=((z'.getD (i+j) 0+y*y':Nat):Int):=by push_cast;rfl
      show some (HO.lst ((nv z').set (i+j) (V.int (((z'.getD (i+j) 0:Nat):Int)+(y:Int)*(y':Int)))))=_
      rw[this,XU]
   ·rintro σ H2 ⟨v5',v6',z',rfl,s5,hz5,hA5⟩
    rw[Ar]at hA5
    exact⟨_,_,_,_,z',rfl,s5,hz5,hA5.turn (List.getElem?_eq_some_iff.mp hy).1⟩
  ·rintro σ H' ⟨v3,v4,v5,v6,z,rfl,s3,hz,hA⟩
   rw[Ar]at hA
   have ez:=hA.done g1 g2
   refine⟨_,rfl,p,a.Ao,dx1,_,_,rfl,s3 _ _ hp,T.AY,T.A5,rfl,_,rfl,q,a.Ao,dx2,_,_,rfl,s3 _ _ hq,T.AY,T.A5,rfl,_,_,rfl,rfl,_,rfl,?_⟩
   intro x dx nx ndx ne
   refine⟨x,dx,_,_,rfl,AB,fun H2 hx2 b2=>⟨rfl,?_⟩⟩
   have s6:AK H' H2:=.init nx ndx b2
   refine k x H2 (s3.trans s6) ⟨m,⟨dx,hx2⟩,?_⟩
   rw[Dm.IS d e Ad1.some Ad2.some,<-ez]
   exact s6 _ _ hz
def RT (a:Ad):Sp:=fun vs H Q _=>∃n f:Nat,vs=[.int n,.int f]/\n<=6/\1<=f/\f<=100/\∀r H',AK H H'->DX a H' r (Vbrgag.dice f n)->Q (.ref r) H'
theorem K7:AL ["dice","faces","one_die","total","die"] ["dice","faces"] (AG IU):=⟨rfl,rfl,rfl,by decide +kernel,rfl,by decide +kernel,by decide +kernel⟩
theorem ML (h1:1<=f)(h2:f<=100)(hn:n<=6):KR (Vbrgag.dice f n):=by
 refine⟨Dm.FX h1 n,?_,?_⟩
 ·rw[Dm.LN h1]
  exact Bd.more (B:=42) (Dm.M1 h2 hn) (by decide)
 ·have:=Dm.PV h1 n
  have h3:n*f<=6*100:=Nat.mul_le_mul hn h2
  omega
theorem RO (T:Tx K mg a):Fn P w K mg base CX0 4 a.IV ["dice","faces"] (RT a):=by
 obtain⟨fd,F,hb⟩:=T.US
 refine F.fn hb K7 (fun vs H Q E h=>?_) (fun cdv A outer s H vs Q E hr h=>?_)
 ·obtain⟨n,f,rfl,_⟩:=h
  rfl
 ·obtain⟨n,f,rfl,hn,h1,h2,k⟩:=h
  have nd:=K7.nd
  refine⟨_,AD (AN (i:=2) nd rfl (Or.inl rfl) (Dv T.Fj (Bj T) hr rfl T.Fl AU (AA AH (AA (AS XF (An (AA AH AE)) (pv 1)) AE))))
   (AD (AN (i:=3) nd rfl (Or.inl rfl) (Dv T.Fj (Bj T) hr rfl T.Fl AU (AA AH (AA (An (AA AH AE)) AE))))
   (AD (BD PassesOwn.never rfl (Bo rfl T.Cc (AA (pv 0) AE)) (AX (i:=4) nd rfl (Or.inl rfl))
    (AF (AN (i:=3) nd rfl (Or.inl rfl) (Ac (Vh T) hr rfl T.YR AU (AA (pv 3) (AA (pv 2) AE))))))
   (AF (AO (pv 3))))),?_⟩
  have hs:sizeLine=16777216:=sizeLine_eq
  refine⟨(by show 1<=sizeLine;decide),fun l hl=>⟨_,rfl,l,_,_,rfl,rfl,AB,(by omega),(by omega),(by show 1*_<=_;omega),fun m hm=>?_⟩⟩
  intro x dx nx ndx ne
  refine⟨x,dx,_,_,rfl,AB,fun H1 hx1 b1=>⟨rfl,?_⟩⟩
  have s0:AK H (upd H l (.lst [.int 1])):=.new hl
  have s1:=(s0.trans (.new hm)).trans (AK.init nx ndx b1)
  have hm1:=(AK.init nx ndx b1) m _ AB
  rw[Int.toNat_natCast,eV]at hm1
  have d1:DX a H1 x (Vbrgag.die f):=⟨m,⟨dx,hx1⟩,hm1⟩
  refine⟨(by show 1<=sizeLine;decide),fun l2 hl2=>?_⟩
  intro x2 dx2 nx2 ndx2 ne2
  refine⟨x2,dx2,_,_,rfl,AB,fun H2 hx2 b2=>⟨rfl,?_⟩⟩
  have s2:AK H1 H2:=(AK.new hl2).trans (AK.init nx2 ndx2 b2)
  have d2:DX a H2 x2 (Vbrgag.dice f 0):=⟨l2,⟨dx2,hx2⟩,(AK.init nx2 ndx2 b2) l2 _ AB⟩
  refine⟨_,rfl,(n:Int),rfl,(by omega),(by omega),?_⟩
  rw[Int.toNat_natCast]
  refine B6 (n:=n) (fun i σ H'=>∃(v:Option V) (r:Addr),σ=[some (.int n),some (.int f),some (.ref x),some (.ref r),v]/\AK H H'/\DX a H' x (Vbrgag.die f)/\DX a H' r (Vbrgag.dice f i)) ⟨none,x2,rfl,s1.trans s2,d1.same s2,d2⟩ ?_ ?_
  ·rintro i σ H' hi ⟨v,r,rfl,s3,e1,e2⟩
   refine⟨_,rfl,_,rfl,r,x,_,_,rfl,e2,e1,ML h1 h2 (by omega),?_,fun r' H'' s4 e3=>?_⟩
   ·have:=ML h1 h2 (show 1<=6 by decide)
    refine⟨Dm.Jd h1,?_,?_⟩
    ·have e:=Dm.SV f
     have e':(Vbrgag.die f).total=f:=by omega
     rw[e']
     exact Bd.more (B:=42) (Nat.lt_of_le_of_lt h2 (by decide)) (by decide)
    ·show(List.replicate f 1).length<=10000
     rw[List.length_replicate];omega
   ·refine⟨_,r',rfl,s3.trans s4,e1.same s4,?_⟩
    rw[Dm.Zi h1]at e3
    exact e3
  ·rintro σ H' ⟨v,r,rfl,s3,e1,e2⟩
   exact⟨_,rfl,k r H' s3 e2⟩
end
theorem Wg (h1:ns.Perm (l.map fun n:Nat=>(n:Int)))(h2:ns.Pairwise (·<=·)):ns=(Dm.srt l).map fun n:Nat=>(n:Int):=by
 have h3:((Dm.srt l).map fun n:Nat=>(n:Int)).Pairwise (·<=·):=List.Pairwise.map _ (fun a b h=>by omega) (Dm.CI l)
 have h4:ns.Perm ((Dm.srt l).map fun n:Nat=>(n:Int)):=h1.trans ((Dm.Ey l).symm.map _)
 exact List.Perm.eq_of_pairwise (fun a b _ _ h h'=>Int.le_antisymm h h') h2 h3 h4
section
variable {P:Program}{w:World}{K:PySem.W.Frag}{mg:Str->Option Value}{base:Heap}{a:Ad}
def fO (K:PySem.W.Frag):Sp:=fun vs H Q _=>∃(s:Addr) (k:Nat) (g:Bool) (l:List Nat),vs=[.ref s,.int k,.bl g]/\(SqL K H s (nv l)\/SqT K H s (nv l))/\l.length<64/\Ip H (nv (Dm.hold g k l)) Q
theorem Yu:AL ["shown","kept","greatest","ordered"] ["shown","kept","greatest"] (AG IW):=⟨rfl,rfl,rfl,by decide +kernel,rfl,by decide +kernel,by decide +kernel⟩
theorem Ys (T:Tx K mg a):Fn P w K mg base CX0 1 a.Ib ["shown","kept","greatest"] (fO K):=by
 obtain⟨fd,F,hb⟩:=T.UU
 refine F.fn hb Yu (fun vs H Q E h=>?_) (fun cdv A outer s H vs Q E hr h=>?_)
 ·obtain⟨s,k,g,l,rfl,_⟩:=h
  rfl
 ·obtain⟨s1,k,g,l,rfl,hl,h64,kk⟩:=h
  refine⟨_,AD (AN (i:=3) Yu.nd rfl (Or.inl rfl) (PE.or (AZ ZH rfl T.WV Sb (AA (pv 0) AE)) (AZ Xa rfl T.WV Sb (AA (pv 0) AE))))
   (AD (BR (LC (pv 2)) (AF (AO (Dy FD (pv 3) (Ek (AZ (KO rfl) rfl T.Vs Pa (AA AH (AA (AS Bm (AZ Ai rfl T.EJ CU (AA (pv 3) AE)) (pv 1)) AE)))) GQ))) Al)
   (AF (AO (Dy FD (pv 3) GQ (Ek (pv 1)))))),?_⟩
  have go:∀(ns':List Int) (p:Addr),ns'.Perm (l.map fun n:Nat=>(n:Int))->ns'.Pairwise (·<=·)->H p=none->∀(H1:Hp),H1=upd H p (.lst (ns'.map V.int))->
    H1 p=some (.lst (nv (Dm.srt l)))/\AK H H1:=fun ns' p h1 h2 hp H1 e=>by
   subst e
   rw[Wg h1 h2]
   exact⟨AB,.new hp⟩
  have fin:∀(ns':List Int) (p:Addr),ns'.Perm (l.map fun n:Nat=>(n:Int))->ns'.Pairwise (·<=·)->H p=none->
    (Qv (aF (tB (Ae 2)) (Ql (tSl (dR K) (Ae 3) (YE (tCB (fun xs H Q=>∃i j,xs=[.int i,.int j]/\Q (.int (if j>i then j else i)) H) (CG (tC (.int 0)) (CG (tOp (rI0 fun i j=>.int (i - j)) (tCB (fun xs H Q=>∃p ys,xs=[.ref p]/\(SqL K H p ys\/SqT K H p ys)/\Q (.int ys.length) H) (CG (Ae 3) DT)) (Ae 1)) DT)))) OY)) Rw)
     (Ql (tSl (dR K) (Ae 3) OY (YE (Ae 1))))) {nx:=fun _ H'=>Q .non H',rt:=Q} [some (.ref s1),some (.int k),some (.bl g),some (.ref p)] (upd H p (.lst (ns'.map V.int))):=fun ns' p h1 h2 hp=>by
   obtain⟨e1,e2⟩:=go ns' p h1 h2 hp _ rfl
   refine⟨_,rfl,_,rfl,?_⟩
   cases g with
   |true=>
    refine LB ?_
    refine⟨_,rfl,_,rfl,p,_,rfl,.inl (SqL.of e1),_,rfl,_,_,rfl,rfl,_,_,rfl,_,rfl,p,_,rfl,SqL.of e1,fun q hq=>?_⟩
    have em:(if(((nv (Dm.srt l)).length:Nat):Int) - (k:Int)>0 then(((nv (Dm.srt l)).length:Nat):Int) - (k:Int)else 0)=((l.length - k:Nat):Int):=by
     rw[d7,Ar,Dm.Ka];omega
    rw[em,MI,Yr]
    have:=kk.upd e2 hq
    unfold Dm.hold at this
    rw[if_pos rfl]at this
    exact this
   |false=>
    refine N6 ?_
    refine⟨_,rfl,_,rfl,_,rfl,p,_,rfl,SqL.of e1,fun q hq=>?_⟩
    rw[MH,Yq]
    have:=kk.upd e2 hq
    unfold Dm.hold at this
    rw[if_neg Bool.false_ne_true]at this
    exact this
  rcases hl with hl|hl
  ·exact .inl ⟨_,rfl,s1,_,rfl,hl,by rw[List.length_map];exact h64,fun ns' p h1 h2 hp=>fin ns' p h1 h2 hp⟩
  ·exact .inr ⟨_,rfl,s1,_,rfl,hl,by rw[List.length_map];exact h64,fun ns' p h1 h2 hp=>fin ns' p h1 h2 hp⟩
end
def JN (names:List (Str×NameKind)):Scope:={kind:=.function,names:=names,isGenerator:=false,isCoroutine:=false}
section
variable {P:Program}{w:World}{K:PySem.W.Frag}{mg:Str->Option Value}{base:Heap}{a:Ad}
theorem PD (n:Nat):Vbrgag.digitsText n=((toString ((n:Nat):Int):Str).cps.toList.map fun c:Nat=>(c:Int)):=by
 unfold Vbrgag.digitsText
 have e:(toString ((n:Nat):Int):Str).cps.toList=(toString ((n:Nat):Int)).toList.map Char.toNat:=PyProof.Rows.signs_ofString _
 rw[e,List.map_map]
 rfl
def SM:Sp:=fun vs H Q _=>∃n:Nat,vs=[.int n]/\n<1000/\Ip H (iv (Vbrgag.digitsText n)) Q
theorem Mw:AL ["number","digit"] ["number"] (AG GU):=⟨rfl,rfl,rfl,by decide +kernel,rfl,by decide +kernel,by decide +kernel⟩
theorem XJ:GI ["number","digit"] (AG GU) (JN [(".0",.local),("digit",.local),("ord",.globalImplicit)]) [("digit",1)]:=⟨rfl,by decide +kernel,by decide +kernel,by decide +kernel,by decide +kernel⟩
theorem KL (T:Tx K mg a):Fn P w K mg base CX0 1 a.digits_of ["number"] SM:=by
 obtain⟨fd,F,hb⟩:=T.Vc
 refine F.fn hb Mw (fun vs H Q E h=>?_) (fun cdv A outer s H vs Q E hr h=>?_)
 ·obtain⟨n,rfl,_⟩:=h
  rfl
 ·obtain⟨n,rfl,hn,k⟩:=h
  refine⟨_,AF (AO (SF rfl Mw.nd (jB (SE Tg rfl T.kg jE (AA (pv 0) AE))) XJ
   (fun s H C cl fp=>AX (i:=1) Mw.nd rfl (Or.inl rfl)) (fun s H C cl fp=>GJ) (fun s H C cl fp=>AZ O4 rfl T.ai XM (AA (pv 1) AE)))),?_⟩
  refine⟨_,rfl,(n:Int),rfl,?_,_,rfl,fun D hD=>?_⟩
  ·show((n:Int).natAbs).log2<1920
   have e:(n:Int).natAbs=n:=Int.natAbs_natCast n
   rw[e]
   by_cases h0:n=0
   ·subst h0;decide
   ·exact Nat.lt_of_lt_of_le ((Nat.log2_lt h0).mpr (show n<2 ^ 10 by omega)) (by decide)
  ·have hs:(toString ((n:Nat):Int):Str).cps.size<=3:=by
    have e:TL.tl (Str.ofString (toString ((n:Nat):Int)))=TL.de n:=TL.XI n
    have l:=TL.Va (n:=n) (k:=3) (by decide) (by omega)
    rw[<-e]at l
    have q:(TL.tl (Str.ofString (toString ((n:Nat):Int)))).length=(Str.ofString (toString ((n:Nat):Int))).cps.size:=Array.length_toList
    rw[q]at l
    exact l
   have hz:sizeLine=16777216:=sizeLine_eq
   refine jF (fun i H'=>AK H H'/\H' D=some (.lst (iv (((toString ((n:Nat):Int):Str).cps.toList.map fun c:Nat=>(c:Int)).take i)))) ⟨.new hD,?_⟩ ?_ ?_
   ·rw[AB];rfl
   ·rintro i c H' hc ⟨s1,h1⟩
    have hc':((toString ((n:Nat):Int):Str).cps.toList.map fun c:Nat=>(c:Int))[i]? =some (c:Int):=by
     rw[List.getElem?_map,Array.getElem?_toList,hc];rfl
    refine⟨rfl,yes ?_⟩
    refine⟨_,rfl,_,rfl,rfl,_,h1,?_,fun b o e=>?_,?_⟩
    ·rw[Ay,List.length_take,hz]
     have:=(Array.getElem?_eq_some_iff.mp hc).1
     omega
    ·rw[AI (AM e hD)];exact s1 b o e
    ·rw[AB,List.take_add_one,hc']
     unfold iv
     rw[List.map_append]
     rfl
   ·rintro H' ⟨s1,h1⟩
    rw[List.take_of_length_le (by rw[List.length_map,Array.length_toList];exact Nat.le_refl _),<-PD]at h1
    exact k D H' s1 hD h1
def aj:Sp:=fun vs H Q _=>∃b e n:Nat,vs=[.int b,.int e,.int n]/\b<=1000/\e<=1000/\Q (.bl (decide (b ^ e<=n))) H
theorem Vd:AL ["base","exponent","bound","power","step"] ["base","exponent","bound"] (AG E6):=⟨rfl,rfl,rfl,by decide +kernel,rfl,by decide +kernel,by decide +kernel⟩
theorem ak (T:Tx K mg a):Fn P w K mg base CX0 1 a.El ["base","exponent","bound"] aj:=by
 obtain⟨fd,F,hb⟩:=T.N7
 refine F.fn hb Vd (fun vs H Q E h=>?_) (fun cdv A outer s H vs Q E hr h=>?_)
 ·obtain⟨b,e,n,rfl,_⟩:=h
  rfl
 ·obtain⟨b,e,n,rfl,hb',he,k⟩:=h
  have nd:=Vd.nd
  refine⟨_,AD (AN (i:=3) nd rfl (Or.inl rfl) AH)
   (AD (BD PassesOwn.never rfl (Bo rfl T.Cc (AA (pv 1) AE)) (AX (i:=4) nd rfl (Or.inl rfl))
    (AF (AN (i:=3) nd rfl (Or.inl rfl) (AS Ta (pv 3) (pv 0)))))
   (AF (AO (Lq EK (pv 3) (pv 2) (Am _))))),?_⟩
  refine⟨_,rfl,(e:Int),rfl,(by omega),(by omega),?_⟩
  rw[Int.toNat_natCast]
  refine B6 (n:=e) (fun i σ H'=>∃v:Option V,σ=[some (.int b),some (.int e),some (.int n),some (.int (b ^ i:Nat)),v]/\H'=H) ⟨none,rfl,rfl⟩ ?_ ?_
  ·rintro i σ H' hi ⟨v,rfl,rfl⟩
   refine⟨_,rfl,_,rfl,_,_,rfl,rfl,Or.inr ⟨by omega,by omega⟩,some (V.int (0+(i:Int))),?_,rfl⟩
   show [some (V.int b),some (V.int e),some (V.int n),some (V.int (((b ^ i:Nat):Int)*(b:Int))),_]=_
   rw[Nat.pow_succ,Int.natCast_mul]
  ·rintro σ H' ⟨v,rfl,rfl⟩
   refine⟨_,rfl,_,rfl,_,_,rfl,rfl,?_⟩
   have e1:decide (((b ^ e:Nat):Int)<=(n:Int))=decide (b ^ e<=n):=by
    by_cases h:b ^ e<=n
    ·rw[decide_eq_true h,decide_eq_true (by omega)]
    ·rw[decide_eq_false h,decide_eq_false (by omega)]
   show Q (V.bl (decide (((b ^ e:Nat):Int)<=(n:Int)))) _
   rw[e1]
   exact k
end
abbrev Part:=Vbrgag.Part
def sgn (p:Part):Int:=if p.minus=true then -1 else 1
def VD (a:Ad)(H:Hp)(x:Addr)(p:Part):Prop:=p.faces=0/\p.keep=0/\p.best=true/\Bt H x a.B5 [("sign",.int (sgn p)),("amount",.int p.count)]
def Qn (a:Ad)(H:Hp)(x:Addr)(p:Part):Prop:=∃F:Nat,p.faces=max 1 F/\Bt H x a.Dt [("sign",.int (sgn p)),("dice",.int p.count),("faces",.int F),("kept",.int p.keep),("greatest",.bl p.best)]
def C6 (a:Ad)(H:Hp)(x:Addr)(p:Part):Prop:=VD a H x p\/Qn a H x p
theorem C6.same (h:C6 a H x p)(s:AK H H'):C6 a H' x p:=by
 rcases h with⟨h1,h2,h3,h4⟩|⟨F,h1,h2⟩
 ·exact .inl ⟨h1,h2,h3,h4.same s⟩
 ·exact .inr ⟨F,h1,h2.same s⟩
theorem VD.no (h:VD a H x p):p.faces=0:=h.1
theorem Qn.no (h:Qn a H x p):p.faces≠0:=by obtain⟨F,e,_⟩:=h;rw[e];omega
theorem Qn.fit (h:Qn a H x p)(f:Dm.Fits p):Bt H x a.Dt [("sign",.int (sgn p)),("dice",.int p.count),("faces",.int p.faces),("kept",.int p.keep),("greatest",.bl p.best)]:=by
 have hz:=h.no
 obtain⟨F,e,i⟩:=h
 obtain⟨_,_,h2,_⟩:=f.dice hz
 have:F=p.faces:=by omega
 rw[<-this]
 exact i
section
variable {P:Program}{w:World}{K:PySem.W.Frag}{mg:Str->Option Value}{base:Heap}{a:Ad}
def Oy (a:Ad):Sp:=fun vs H Q _=>∃x dx v1 v2,vs=[.ref x,v1,v2]/\H x=some (.ins a.B5 dx [])/\∀H',H' x=some (.ins a.B5 dx [("sign",v1),("amount",v2)])->But x H H'->Q .non H'
theorem Oz:AL ["self","sign","amount"] ["self","sign","amount"] (AG Gy):=⟨rfl,rfl,rfl,by decide +kernel,rfl,by decide +kernel,by decide +kernel⟩
theorem O0 (T:Tx K mg a):Fn P w K mg base CX0 1 a.GN ["self","sign","amount"] (Oy a):=by
 obtain⟨fd,F,hb⟩:=T.Qr
 refine F.fn hb Oz (fun vs H Q E h=>?_) (fun cdv A outer s H vs Q E hr h=>?_)
 ·obtain⟨x,dx,v1,v2,rfl,_⟩:=h
  rfl
 ·obtain⟨x,dx,v1,v2,rfl,hx,k⟩:=h
  refine⟨_,AD (BH (pv 0) (pv 1) rfl) (AF (BH (pv 0) (pv 2) rfl)),?_⟩
  refine⟨_,rfl,_,rfl,x,a.B5,dx,[],rfl,hx,T.Co,T.Ky,(by show 0<1000;decide),?_⟩
  refine⟨_,rfl,_,rfl,x,a.B5,dx,_,rfl,AB,T.Co,T.CM,(by show 1<1000;decide),?_⟩
  exact k _ (by rw[AB,BP,Ak (by decide),BP]) (But.upd.trans But.upd)
def Wy (a:Ad):Sp:=fun vs H Q _=>∃x p,vs=[.ref x]/\VD a H x p/\Q (.bl (Vbrgag.fits p)) H
theorem Wz:AL ["self"] ["self"] (AG Gz):=⟨rfl,rfl,rfl,by decide +kernel,rfl,by decide +kernel,by decide +kernel⟩
theorem Wr (T:Tx K mg a):Fn P w K mg base CX0 1 a.GO ["self"] (Wy a):=by
 obtain⟨fd,F,hb⟩:=T.Qs
 refine F.fn hb Wz (fun vs H Q E h=>?_) (fun cdv A outer s H vs Q E hr h=>?_)
 ·obtain⟨x,p,rfl,_⟩:=h
  rfl
 ·obtain⟨x,p,rfl,⟨h0,_,_,dx,hx⟩,k⟩:=h
  refine⟨_,AF (AO (Lq EK (AJ (pv 0) rfl) AH (Am _))),?_⟩
  refine⟨_,rfl,x,a.B5,dx,_,_,rfl,hx,T.Co,T.CM,rfl,_,_,rfl,rfl,?_⟩
  show Q (V.bl (decide ((p.count:Int)<=100))) H
  unfold Vbrgag.fits at k
  rw[if_pos h0]at k
  have e:decide ((p.count:Int)<=100)=decide (p.count<=100):=by
   by_cases h:p.count<=100
   ·rw[decide_eq_true h,decide_eq_true (by omega)]
   ·rw[decide_eq_false h,decide_eq_false (by omega)]
  rw[e]
  exact k
def Kz (a:Ad):Sp:=fun vs H Q _=>∃x p,vs=[.ref x]/\VD a H x p/\Dm.Fits p/\Ip H (iv (Vbrgag.partText p)) Q
theorem Qt:AL ["self"] ["self"] (AG EO):=⟨rfl,rfl,rfl,by decide +kernel,rfl,by decide +kernel,by decide +kernel⟩
theorem Qp (T:Tx K mg a):Fn P w K mg base CX0 2 a.Du ["self"] (Kz a):=by
 obtain⟨fd,F,hb⟩:=T.Mm
 refine F.fn hb Qt (fun vs H Q E h=>?_) (fun cdv A outer s H vs Q E hr h=>?_)
 ·obtain⟨x,p,rfl,_⟩:=h
  rfl
 ·obtain⟨x,p,rfl,⟨h0,_,_,dx,hx⟩,f,k⟩:=h
  refine⟨_,AF (AO (Ac (KL T) hr rfl T.GP AU (AA (AJ (pv 0) rfl) AE))),?_⟩
  refine⟨_,rfl,x,a.B5,dx,_,_,rfl,hx,T.Co,T.CM,rfl,p.count,rfl,?_,?_⟩
  ·have:=f.num h0;omega
  ·unfold Vbrgag.partText at k
   rw[if_pos h0]at k
   exact k
def TF (a:Ad):Sp:=fun vs H Q _=>∃x p,vs=[.ref x]/\VD a H x p/\∀r H',AK H H'->DX a H' r (Dm.bare p)->Q (.ref r) H'
theorem TH:AL ["self"] ["self"] (AG E4):=⟨rfl,rfl,rfl,by decide +kernel,rfl,by decide +kernel,by decide +kernel⟩
theorem TJ (T:Tx K mg a):Fn P w K mg base CX0 3 a.Ei ["self"] (TF a):=by
 obtain⟨fd,F,hb⟩:=T.N1
 refine F.fn hb TH (fun vs H Q E h=>?_) (fun cdv A outer s H vs Q E hr h=>?_)
 ·obtain⟨x,p,rfl,_⟩:=h
  rfl
 ·obtain⟨x,p,rfl,⟨h0,_,_,dx,hx⟩,k⟩:=h
  refine⟨_,AF (AO (Dv T.Fj (Bj T) hr rfl T.Fl AU (AA (AJ (pv 0) rfl) (AA (An (AA AH AE)) AE)))),?_⟩
  refine⟨_,rfl,x,a.B5,dx,_,_,rfl,hx,T.Co,T.CM,rfl,(by show 1<=sizeLine;decide),fun l hl=>?_⟩
  intro y dy ny ndy ne
  refine⟨y,dy,_,_,rfl,AB,fun H2 hx2 b2=>⟨rfl,?_⟩⟩
  have s2:AK (upd H l (.lst [.int 1])) H2:=.init ny ndy b2
  refine k y H2 ((AK.new hl).trans s2) ⟨l,⟨dy,?_⟩,?_⟩
  ·unfold Dm.bare
   rw[if_pos h0]
   exact hx2
  ·unfold Dm.bare
   rw[if_pos h0]
   exact s2 _ _ AB
def TK (a:Ad):Sp:=fun vs H Q _=>∃x p v,vs=[.ref x,v]/\VD a H x p/\Q (.int p.count) H
theorem TM:AL ["self","stream"] ["self","stream"] (AG E5):=⟨rfl,rfl,rfl,by decide +kernel,rfl,by decide +kernel,by decide +kernel⟩
theorem TN (T:Tx K mg a):Fn P w K mg base CX0 1 a.Ej ["self","stream"] (TK a):=by
 obtain⟨fd,F,hb⟩:=T.N3
 refine F.fn hb TM (fun vs H Q E h=>?_) (fun cdv A outer s H vs Q E hr h=>?_)
 ·obtain⟨x,p,v,rfl,_⟩:=h
  rfl
 ·obtain⟨x,p,v,rfl,⟨h0,_,_,dx,hx⟩,k⟩:=h
  refine⟨_,AF (AO (AJ (pv 0) rfl)),?_⟩
  exact⟨_,rfl,x,a.B5,dx,_,_,rfl,hx,T.Co,T.CM,rfl,k⟩
def TQ (a:Ad):Sp:=fun vs H Q _=>∃x dx v1 v2 v3 v4 v5,vs=[.ref x,v1,v2,v3,v4,v5]/\H x=some (.ins a.Dt dx [])/\∀H',H' x=some (.ins a.Dt dx [("sign",v1),("dice",v2),("faces",v3),("kept",v4),("greatest",v5)])->But x H H'->Q .non H'
theorem TR:AL ["self","sign","dice","faces","kept","greatest"] ["self","sign","dice","faces","kept","greatest"] (AG JP):=⟨rfl,rfl,rfl,by decide +kernel,rfl,by decide +kernel,by decide +kernel⟩
theorem Lr (T:Tx K mg a):Fn P w K mg base CX0 1 a.KN ["self","sign","dice","faces","kept","greatest"] (TQ a):=by
 obtain⟨fd,F,hb⟩:=T.VJ
 refine F.fn hb TR (fun vs H Q E h=>?_) (fun cdv A outer s H vs Q E hr h=>?_)
 ·obtain⟨x,dx,v1,v2,v3,v4,v5,rfl,_⟩:=h
  rfl
 ·obtain⟨x,dx,v1,v2,v3,v4,v5,rfl,hx,k⟩:=h
  refine⟨_,AD (BH (pv 0) (pv 1) rfl) (AD (BH (pv 0) (pv 2) rfl) (AD (BH (pv 0) (pv 3) rfl) (AD (BH (pv 0) (pv 4) rfl) (AF (BH (pv 0) (pv 5) rfl))))),?_⟩
  refine⟨_,rfl,_,rfl,x,a.Dt,dx,[],rfl,hx,T.Bn,T.NP,(by show 0<1000;decide),?_⟩
  refine⟨_,rfl,_,rfl,x,a.Dt,dx,[("sign",v1)],rfl,AB,T.Bn,T.Dk,(by show 1<1000;decide),?_⟩
  rw[Ak (by decide),BP]
  refine⟨_,rfl,_,rfl,x,a.Dt,dx,[("sign",v1),("dice",v2)],rfl,AB,T.Bn,T.Dx,(by show 2<1000;decide),?_⟩
  rw[Ak (by decide),Ak (by decide),BP]
  refine⟨_,rfl,_,rfl,x,a.Dt,dx,[("sign",v1),("dice",v2),("faces",v3)],rfl,AB,T.Bn,T.Dl,(by show 3<1000;decide),?_⟩
  rw[Ak (by decide),Ak (by decide),Ak (by decide),BP]
  refine⟨_,rfl,_,rfl,x,a.Dt,dx,[("sign",v1),("dice",v2),("faces",v3),("kept",v4)],rfl,AB,T.Bn,T.DK,(by show 4<1000;decide),?_⟩
  rw[Ak (by decide),Ak (by decide),Ak (by decide),Ak (by decide),BP]
  exact k _ AB ((((But.upd.trans But.upd).trans But.upd).trans But.upd).trans But.upd)
end
theorem eY (h:¬Dm.Fits p):Vbrgag.fits p=false:=by
 cases e:Vbrgag.fits p with
 |false=>rfl
 |true=>exact absurd ((Dm.PY p).mp e) h
section
variable {P:Program}{w:World}{K:PySem.W.Frag}{mg:Str->Option Value}{base:Heap}{a:Ad}
def Xm (a:Ad):Sp:=fun vs H Q _=>∃x p,vs=[.ref x]/\Qn a H x p/\Q (.bl (Vbrgag.fits p)) H
theorem Xn:AL ["self"] ["self"] (AG Jz):=⟨rfl,rfl,rfl,by decide +kernel,rfl,by decide +kernel,by decide +kernel⟩
theorem Ws (T:Tx K mg a):Fn P w K mg base CX0 2 a.Kc ["self"] (Xm a):=by
 obtain⟨fd,F,hb⟩:=T.WJ
 refine F.fn hb Xn (fun vs H Q E h=>?_) (fun cdv A outer s H vs Q E hr h=>?_)
 ·obtain⟨x,p,rfl,_⟩:=h
  rfl
 ·obtain⟨x,p,rfl,hd,k⟩:=h
  have hz:=hd.no
  obtain⟨F,hF,dx,hx⟩:=hd
  refine⟨_,AD (BR (Oi (JM (Ew EK EK AH (AJ (pv 0) rfl) AH)) (Me (JM (Ew EK EK AH (AJ (pv 0) rfl) AH)))).pt (AF (AO R0)) Al)
   (AD (BR (Oi (Ag Ih (AS Ta (AJ (pv 0) rfl) (AJ (pv 0) rfl)) AH (Am _)) (Me (JM (Ew EK EK AH (AJ (pv 0) rfl) (AJ (pv 0) rfl))))).pt (AF (AO R0)) Al)
   (AD (BR (Ag DC (AJ (pv 0) rfl) (AJ (pv 0) rfl) (Am _)) (AF (AO R0)) Al)
   (AF (AO (ic (Lq EK (AJ (pv 0) rfl) AH (Am _)) (ib (Ac (ak T) hr rfl T.OE AU (AA (AJ (pv 0) rfl) (AA (AJ (pv 0) rfl) (AA AH AE)))))))))),?_⟩
  have gd:Gives (Bq K (Ae 0) "dice") [some (.ref x)] H (.int p.count):=A9 (AQ rfl) hx T.Bn T.Dk rfl
  have gf:Gives (Bq K (Ae 0) "faces") [some (.ref x)] H (.int F):=A9 (AQ rfl) hx T.Bn T.Dx rfl
  have gk:Gives (Bq K (Ae 0) "kept") [some (.ref x)] H (.int p.keep):=A9 (AQ rfl) hx T.Bn T.Dl rfl
  have no:¬Dm.Fits p->Q (.bl false) H:=fun h=>by rw[eY h]at k;exact k
  have ys:Dm.Fits p->Q (.bl true) H:=fun h=>by rw[(Dm.PY p).mpr h]at k;exact k
  refine Fz Ax gd Ax ?_
  refine BY (fun h1=>?_) (fun h1=>?_)
  ·refine LB (no fun f=>?_)
   obtain⟨a1,a2,_⟩:=f.dice hz
   rw[Bool.not_eq_true',Bool.and_eq_false_iff,decide_eq_false_iff_not,decide_eq_false_iff_not]at h1
   omega
  ·have h1:(1:Int)<=p.count/\(p.count:Int)<=6:=by simpa using h1
   refine Fz Ax gf Ax ?_
   refine BY (fun h2=>?_) (fun h2=>?_)
   ·refine no fun f=>?_
    obtain⟨_,_,a3,a4,_⟩:=f.dice hz
    rw[Bool.not_eq_true',Bool.and_eq_false_iff,decide_eq_false_iff_not,decide_eq_false_iff_not]at h2
    omega
   ·have h2:(2:Int)<=F/\(F:Int)<=100:=by simpa using h2
    have hpf:p.faces=F:=by omega
    have em:(p.count:Int)*(F:Int)=((p.count*p.faces:Nat):Int):=by rw[hpf,Int.natCast_mul]
    have gm:Gives (tOp (rI dE fun i j=>.int (i*j)) (Bq K (Ae 0) "dice") (Bq K (Ae 0) "faces")) [some (.ref x)] H (.int ((p.count:Int)*(F:Int))):=T3 (g:=fun i j=>V.int (i*j)) gd gf (Or.inl ⟨by omega,by omega⟩)
    refine CZ gm Ax ?_
    refine BY (fun h3=>?_) (fun h3=>?_)
    ·refine LB (no fun f=>?_)
     obtain⟨_,_,_,_,a5,_⟩:=f.dice hz
     have h3:(120:Int)<(p.count:Int)*(F:Int):=of_decide_eq_true h3
     rw[em]at h3
     omega
    ·have h3:¬(120:Int)<(p.count:Int)*(F:Int):=fun z=>h3 (decide_eq_true z)
     rw[em]at h3
     refine Fz Ax gk gd ?_
     refine BY (fun h4=>?_) (fun h4=>?_)
     ·refine no fun f=>?_
      obtain⟨_,_,_,_,_,a6,a7,_⟩:=f.dice hz
      rw[Bool.not_eq_true',Bool.and_eq_false_iff,decide_eq_false_iff_not,decide_eq_false_iff_not]at h4
      omega
     ·have h4:(1:Int)<=p.keep/\(p.keep:Int)<=p.count:=by simpa using h4
      refine BN gk gd ?_
      refine BY (fun h5=>?_) (fun h5=>?_)
      ·have h5:(p.keep:Int)=p.count:=of_decide_eq_true h5
       exact ys ⟨fun z=>absurd z hz,fun _=>⟨by omega,by omega,by omega,by omega,by omega,by omega,by omega,.inl (by omega)⟩⟩
      ·have h5:¬(p.keep:Int)=p.count:=fun z=>h5 (decide_eq_true z)
       have g5:Gives (tOp (rI0 fun i j=>.bl (decide (i<=j))) (Bq K (Ae 0) "dice") (tC (.int 5))) [some (.ref x)] H (.bl (decide ((p.count:Int)<=5))):=YS (g:=fun i j=>V.bl (decide (i<=j))) gd Ax
       refine g5 _ ⟨_,rfl,?_⟩
       refine BY (fun h6=>?_) (fun h6=>?_)
       ·have h6:(p.count:Int)<=5:=of_decide_eq_true h6
        refine fn_ (AV gf (AV gd (AV Ax (Bi ?_))))
        refine⟨F,p.count,10000,rfl,by omega,by omega,?_⟩
        by_cases h7:F ^ p.count<=10000
        ·rw[decide_eq_true h7]
         exact ys ⟨fun z=>absurd z hz,fun _=>⟨by omega,by omega,by omega,by omega,by omega,by omega,by omega,.inr ⟨by omega,by rw[hpf];exact h7⟩⟩⟩
        ·rw[decide_eq_false h7]
         refine no fun f=>?_
         obtain⟨_,_,_,_,_,_,_,a8⟩:=f.dice hz
         rw[hpf]at a8
         rcases a8 with z|z
         ·omega
         ·exact h7 z.2
       ·have h6:¬(p.count:Int)<=5:=fun z=>h6 (decide_eq_true z)
        refine no fun f=>?_
        obtain⟨_,_,_,_,_,_,_,a8⟩:=f.dice hz
        rcases a8 with z|z
        ·omega
        ·omega
end
theorem DW (h:n<1000):(Vbrgag.digitsText n).length<=3:=by
 rw[PD,List.length_map]
 have e:TL.tl (Str.ofString (toString ((n:Nat):Int)))=TL.de n:=TL.XI n
 have l:=TL.Va (n:=n) (k:=3) (by decide) (by omega)
 rw[<-e]at l
 exact l
theorem DU (l m:List Int):iv l++iv m=iv (l++m):=by unfold iv;rw[List.map_append]
section
variable {P:Program}{w:World}{K:PySem.W.Frag}{mg:Str->Option Value}{base:Heap}{a:Ad}
def K0 (a:Ad):Sp:=fun vs H Q _=>∃x p,vs=[.ref x]/\Qn a H x p/\Dm.Fits p/\Ip H (iv (Vbrgag.partText p)) Q
theorem K8:AL ["self","row","letter"] ["self"] (AG F9):=⟨rfl,rfl,rfl,by decide +kernel,rfl,by decide +kernel,by decide +kernel⟩
theorem Qq (T:Tx K mg a):Fn P w K mg base CX0 2 a.FT ["self"] (K0 a):=by
 obtain⟨fd,F,hb⟩:=T.P9
 refine F.fn hb K8 (fun vs H Q E h=>?_) (fun cdv A outer s H vs Q E hr h=>?_)
 ·obtain⟨x,p,rfl,_⟩:=h
  rfl
 ·obtain⟨x,p,rfl,hd,f,k⟩:=h
  have hz:=hd.no
  obtain⟨dx,hx⟩:=hd.fit f
  obtain⟨b1,b2,b3,b4,b5,b6,b7,b8⟩:=f.dice hz
  have nd:=K8.nd
  refine⟨_,AD (AN (i:=1) nd rfl (Or.inl rfl) (AS JU (AS JU (Ac (KL T) hr rfl T.GP AU (AA (AJ (pv 0) rfl) AE)) (An (AA (AZ O4 rfl T.ai XM (AA W0 AE)) AE))) (Ac (KL T) hr rfl T.GP AU (AA (AJ (pv 0) rfl) AE))))
   (AD (BR (Ag DC (AJ (pv 0) rfl) (AJ (pv 0) rfl) (Am _)) (AF (AO (pv 1))) Al)
   (AD (AN (i:=2) nd rfl (Or.inl rfl) (Es (LC (AJ (pv 0) rfl)) W0 W0))
   (AF (AO (AS JU (AS JU (pv 1) (An (AA (AZ O4 rfl T.ai XM (AA (pv 2) AE)) AE))) (Ac (KL T) hr rfl T.GP AU (AA (AJ (pv 0) rfl) AE))))))),?_⟩
  have hs:sizeLine=16777216:=sizeLine_eq
  have g:∀{σ:L2.St}{H':Hp}{fl:Str}{v:V},AK H H'->σ[0]? =some (some (V.ref x))->A4 K a.Dt fl->([("sign",.int (sgn p)),("dice",.int p.count),("faces",.int p.faces),("kept",.int p.keep),("greatest",.bl p.best)]:List (Str×V)).lookup fl=some v->Gives (Bq K (Ae 0) fl) σ H' v:=
   fun sm e n l=>A9 (AQ e) (sm _ _ hx) T.Bn n l
  have l1:=DW (n:=p.count) (by omega)
  have l2:=DW (n:=p.faces) (by omega)
  have l3:=DW (n:=p.keep) (by omega)
  refine fn_ (AV (g (AK.refl H) rfl T.Dk rfl) (Bi ⟨p.count,rfl,by omega,fun p1 H1 s1 n1 e1=>?_⟩))
  refine⟨_,rfl,rfl,(by show 1<=sizeLine;decide),fun p2 hp2=>?_⟩
  have s2:AK H (upd H1 p2 (.lst [.int 100])):=s1.trans (.new hp2)
  refine⟨p1,p2,iv (Vbrgag.digitsText p.count),iv [100],rfl,rfl,AK.new hp2 _ _ e1,AB,(by simp only[Ay,List.length_append,List.length_cons,List.length_nil,hs];omega),fun p3 hp3=>?_⟩
  rw[DU]
  have s3:=s2.trans (AK.new (o:=.lst (iv (Vbrgag.digitsText p.count++[100]))) hp3)
  refine fn_ (AV (g s3 rfl T.Dx rfl) (Bi ⟨p.faces,rfl,by omega,fun p4 H4 s4 n4 e4=>?_⟩))
  refine⟨p3,p4,_,_,rfl,rfl,s4 _ _ AB,e4,(by simp only[Ay,List.length_append,List.length_cons,List.length_nil,hs];omega),fun p5 hp5=>?_⟩
  rw[DU]
  have s5:=(s3.trans s4).trans (AK.new (o:=.lst (iv (Vbrgag.digitsText p.count++[100]++Vbrgag.digitsText p.faces))) hp5)
  have n5:H p5=none:=(s3.trans s4).free hp5
  refine BN (g s5 rfl T.Dl rfl) (g s5 rfl T.Dk rfl) ?_
  unfold Vbrgag.partText at k
  rw[if_neg hz]at k
  refine BY (fun hk=>?_) (fun hk=>?_)
  ·have hk:(p.keep:Int)=p.count:=of_decide_eq_true hk
   rw[if_pos (show p.keep=p.count by omega)]at k
   refine lT (AQ rfl) (k p5 _ s5 n5 ?_)
   rw[AB]
   congr 3
   simp
  ·have hk:¬(p.keep:Int)=p.count:=fun z=>hk (decide_eq_true z)
   rw[if_neg (show ¬p.keep=p.count by omega)]at k
   have gg:Gives (Bq K (Ae 0) "greatest") [some (.ref x),some (.ref p5),none] (upd H4 p5 (.lst (iv (Vbrgag.digitsText p.count++[100]++Vbrgag.digitsText p.faces)))) (.bl p.best):=g s5 rfl T.DK rfl
   have fin:∀(c:Str) (z:Nat),c.length=1->c.cps.getD 0 0=z->(z:Int)=(if p.best=true then 107 else 108)->
     Ql (tOp iy (tOp iy (Ae 1) (Z7 (CG (tCB (fun xs H Q=>∃x,xs=[.str x]/\x.length=1/\Q (.int (x.cps.getD 0 0:Nat)) H) (CG (Ae 2) DT)) DT))) (tFn SM E0 (CG (Bq K (Ae 0) "kept") DT)))
      {nx:=fun _ H'=>Q .non H',rt:=Q} [some (.ref x),some (.ref p5),some (.str c)] (upd H4 p5 (.lst (iv (Vbrgag.digitsText p.count++[100]++Vbrgag.digitsText p.faces)))):=fun c z hc hcz hzz=>by
    refine⟨V.ref p5,rfl,V.str c,rfl,c,rfl,hc,(by show 1<=sizeLine;decide),fun p6 hp6=>?_⟩
    have ez:((c.cps.getD 0 0:Nat):Int)=if p.best=true then 107 else 108:=by rw[hcz];exact hzz
    rw[ez]
    have s6:=s5.trans (AK.new (o:=.lst (iv [if p.best=true then 107 else 108])) hp6)
    refine⟨p5,p6,_,iv [if p.best=true then 107 else 108],rfl,rfl,AK.new hp6 _ _ AB,AB,(by simp only[Ay,List.length_append,List.length_cons,List.length_nil,hs];omega),fun p7 hp7=>?_⟩
    rw[DU]
    have s7:=s6.trans (AK.new (o:=.lst (iv (Vbrgag.digitsText p.count++[100]++Vbrgag.digitsText p.faces++[if p.best=true then 107 else 108]))) hp7)
    refine fn_ (AV (g s7 rfl T.Dl rfl) (Bi ⟨p.keep,rfl,by omega,fun p8 H8 s8 n8 e8=>?_⟩))
    refine⟨p7,p8,_,_,rfl,rfl,s8 _ _ AB,e8,(by simp only[Ay,List.length_append,List.length_cons,List.length_nil,hs];omega),fun p9 hp9=>?_⟩
    rw[DU]
    refine k p9 _ ((s7.trans s8).trans (.new hp9)) ((s7.trans s8).free hp9) ?_
    rw[AB]
    exact congrArg (fun l=>some (HO.lst (iv l))) (by simp only[List.append_assoc,List.cons_append,List.nil_append])
   refine nx_ (sq_ (E2 (fS gg Ax Ax) ?_))
   cases hbest:p.best with
   |true=>exact fin "k" 107 rfl rfl (by rw[hbest];rfl)
   |false=>exact fin "l" 108 rfl rfl (by rw[hbest];rfl)
def UT (a:Ad):Sp:=fun vs H Q _=>∃x p y s,vs=[.ref x,.ref y]/\Qn a H x p/\Dm.Fits p/\Kk a H y s/\
 ∀H',Kk a H' y (Vbrgag.rollDice p.faces p.count s).2->But y H H'->Q (.int (((Dm.hold p.best p.keep (Vbrgag.rollDice p.faces p.count s).1).sum:Nat):Int)) H'
theorem MM:AL ["self","stream","shown","die"] ["self","stream"] (AG HS):=⟨rfl,rfl,rfl,by decide +kernel,rfl,by decide +kernel,by decide +kernel⟩
theorem Tw (T:Tx K mg a):Fn P w K mg base CX0 3 a.Gq ["self","stream"] (UT a):=by
 obtain⟨fd,F,hb⟩:=T.RU
 refine F.fn hb MM (fun vs H Q E h=>?_) (fun cdv A outer s H vs Q E hr h=>?_)
 ·obtain⟨x,p,y,s,rfl,_⟩:=h
  rfl
 ·obtain⟨x,p,y,s0,rfl,hd,f,⟨dy,hy⟩,k⟩:=h
  have hz:=hd.no
  obtain⟨dx,hx⟩:=hd.fit f
  obtain⟨b1,b2,b3,b4,b5,b6,b7,b8⟩:=f.dice hz
  have nd:=MM.nd
  have hxy:x≠y:=Af hx hy (by intro z;injection z with z1 z2 z3;cases z3)
  refine⟨_,AD (AN (i:=2) nd rfl (Or.inl rfl) (An AE))
   (AD (BD PassesOwn.never rfl (Bo rfl T.Cc (AA (AJ (pv 0) rfl) AE)) (AX (i:=3) nd rfl (Or.inl rfl))
    (AF (Az (DD PySem.F.plainAttrs_list PySem.F.slot_list_append PySem.F.type_list_append BM (pv 2) (AA (AS Ba AH (B4 (pv 1) T.Jy T.Kr (eX T) hr AU (AA (AJ (pv 0) rfl) AE))) AE)))))
   (AF (AO (AZ (O5 rfl) rfl T.SU My (AA (Ac (Ys T) hr rfl T.MN AU (AA (pv 2) (AA (AJ (pv 0) rfl) (AA (AJ (pv 0) rfl) AE)))) AE))))),?_⟩
  have hs:sizeLine=16777216:=sizeLine_eq
  refine⟨(by show 0<=sizeLine;decide),fun l hl=>?_⟩
  have hly:l≠y:=fun z=>by rw[z,hy]at hl;cases hl
  have hlx:l≠x:=fun z=>by rw[z,hx]at hl;cases hl
  refine⟨_,rfl,x,a.Dt,dx,_,_,rfl,AK.new hl _ _ hx,T.Bn,T.Dk,rfl,(p.count:Int),rfl,(by omega),(by omega),?_⟩
  rw[Int.toNat_natCast]
  refine B6 (n:=p.count) (fun i σ H'=>∃v:Option V,σ=[some (.ref x),some (.ref y),some (.ref l),v]/\H' l=some (.lst (nv (Vbrgag.rollDice p.faces i s0).1))/\Kk a H' y (Vbrgag.rollDice p.faces i s0).2/\But y H H') ⟨none,rfl,AB,?_,?_⟩ ?_ ?_
  ·exact⟨dy,by rw[AI (Ne.symm hly)];exact hy⟩
  ·exact(AK.new hl).but
  ·rintro i σ H' hi ⟨v,rfl,e1,⟨dy',e2⟩,e3⟩
   have hx':H' x=some _:=e3 _ _ hxy hx
   refine⟨_,rfl,.inl ⟨rfl,_,SqL.of e1⟩,?_⟩
   refine⟨_,rfl,y,dy',_,rfl,e2,rfl,?_⟩
   refine⟨_,rfl,x,a.Dt,dx,_,_,rfl,hx',T.Bn,T.Dx,rfl,y,_,p.faces,rfl,⟨dy',e2⟩,(by omega),fun H2 e4 e5=>?_⟩
   have e1':H2 l=some (.lst (nv (Vbrgag.rollDice p.faces i s0).1)):=e5 _ _ hly e1
   refine⟨_,_,rfl,rfl,l,_,_,rfl,rfl,e1',?_,?_⟩
   ·rw[Ar,Dm.FL];omega
   ·refine⟨_,rfl,?_,?_,?_⟩
    ·rw[AB,Dm.Eo]
     unfold nv
     rw[List.map_append,List.map_append]
     rfl
    ·obtain⟨d4,e4⟩:=e4
     refine⟨d4,?_⟩
     rw[AI (Ne.symm hly),e4,Dm.Eo]
    ·intro b o nb eb
     have nl:b≠l:=AM eb hl
     rw[AI nl]
     exact e5 b o nb (e3 b o nb eb)
  ·rintro σ H' ⟨v,rfl,e1,e2,e3⟩
   have hx':H' x=some _:=e3 _ _ hxy hx
   refine⟨_,rfl,_,rfl,x,a.Dt,dx,_,_,rfl,hx',T.Bn,T.Dl,rfl,_,rfl,x,a.Dt,dx,_,_,rfl,hx',T.Bn,T.DK,rfl,?_⟩
   refine⟨l,p.keep,p.best,_,rfl,.inl (SqL.of e1),(by rw[Dm.FL];omega),fun q H2 s2 n2 e4=>?_⟩
   refine⟨q,_,rfl,SqL.of e4,?_⟩
   rw[Ja]
   exact k H2 (e2.same s2) (e3.trans s2.but)
end
abbrev Act:=Vbrgag.Act
def CF (a:Ad)(H:Hp)(x:Addr)(act:Act):Prop:=∃c,Bt H x a.Act [("heals",.bl act.heals),("counts",.ref c)]/\H c=some (.lst (nv act.outs))
theorem CF.same (h:CF a H x act)(s:AK H H'):CF a H' x act:=
 let⟨c,i,e⟩:=h
 ⟨c,i.same s,s _ _ e⟩
theorem Ng (h:n<=2 ^ B):Bd (B+1) n:=by
 unfold Bd
 rw[Nat.pow_succ]
 have:=Nat.two_pow_pos B
 omega
theorem Cp (s:AK H H')(h:H D=none):AK H (upd H' D o):=fun b u e=>by rw[AI (AM e h)];exact s b u e
section
variable {P:Program}{w:World}{K:PySem.W.Frag}{mg:Str->Option Value}{base:Heap}{a:Ad}
def Vm (a:Ad):Sp:=fun vs H Q _=>∃x dx v1 v2,vs=[.ref x,v1,v2]/\H x=some (.ins a.Act dx [])/\∀H',H' x=some (.ins a.Act dx [("heals",v1),("counts",v2)])->But x H H'->Q .non H'
theorem Vn:AL ["self","heals","counts"] ["self","heals","counts"] (AG LL):=⟨rfl,rfl,rfl,by decide +kernel,rfl,by decide +kernel,by decide +kernel⟩
theorem Nh (T:Tx K mg a):Fn P w K mg base CX0 1 a.L3 ["self","heals","counts"] (Vm a):=by
 obtain⟨fd,F,hb⟩:=T.XT
 refine F.fn hb Vn (fun vs H Q E h=>?_) (fun cdv A outer s H vs Q E hr h=>?_)
 ·obtain⟨x,dx,v1,v2,rfl,_⟩:=h
  rfl
 ·obtain⟨x,dx,v1,v2,rfl,hx,k⟩:=h
  refine⟨_,AD (BH (pv 0) (pv 1) rfl) (AF (BH (pv 0) (pv 2) rfl)),?_⟩
  refine⟨_,rfl,_,rfl,x,a.Act,dx,[],rfl,hx,T.Kx,T.JI,(by show 0<1000;decide),?_⟩
  refine⟨_,rfl,_,rfl,x,a.Act,dx,_,rfl,AB,T.Kx,T.FA,(by show 1<1000;decide),?_⟩
  exact k _ (by rw[AB,BP,Ak (by decide),BP]) (But.upd.trans But.upd)
def T5 (a:Ad):Sp:=fun vs H Q _=>∃x act,vs=[.ref x]/\CF a H x act/\Q (.int (act.outs.sum:Nat)) H
theorem T6:AL ["self"] ["self"] (AG JZ):=⟨rfl,rfl,rfl,by decide +kernel,rfl,by decide +kernel,by decide +kernel⟩
theorem Hv (T:Tx K mg a):Fn P w K mg base CX0 1 a.KS ["self"] (T5 a):=by
 obtain⟨fd,F,hb⟩:=T.Vo
 refine F.fn hb T6 (fun vs H Q E h=>?_) (fun cdv A outer s H vs Q E hr h=>?_)
 ·obtain⟨p,d,rfl,_⟩:=h
  rfl
 ·obtain⟨p,d,rfl,⟨c,⟨dx,hp⟩,hc⟩,k⟩:=h
  refine⟨_,AF (AO (AZ (O5 rfl) rfl T.SU My (AA (AJ (pv 0) rfl) AE))),?_⟩
  refine⟨_,rfl,p,a.Act,dx,_,_,rfl,hp,T.Kx,T.FA,rfl,c,_,rfl,SqL.of hc,?_⟩
  rw[Ja]
  exact k
def kq (a:Ad):Sp:=fun vs H Q _=>∃p d,vs=[.ref p]/\DX a H p d/\Ip H (nv (Dm.BX d)) Q
theorem fm:AL ["spread","counts","points"] ["spread"] (AG Fs):=⟨rfl,rfl,rfl,by decide +kernel,rfl,by decide +kernel,by decide +kernel⟩
theorem fo (T:Tx K mg a):Fn P w K mg base CX0 2 a.FF ["spread"] (kq a):=by
 obtain⟨fd,F,hb⟩:=T.PM
 obtain⟨t1,h1⟩:=T.Q7
 refine F.fn hb fm (fun vs H Q E h=>?_) (fun cdv A outer s H vs Q E hr h=>?_)
 ·obtain⟨p,d,rfl,_⟩:=h
  rfl
 ·obtain⟨p,d,rfl,hp,k⟩:=h
  have nd:=fm.nd
  refine⟨_,AD (AN (i:=1) nd rfl (Or.inl rfl) (An (AA (B4 (pv 0) T.AY T.Ex (Jb T) hr AU (AA AH AE)) AE)))
   (AD (BD PassesOwn.never rfl (R7 rfl T.Cc (AA AH (AA (A6 (v:=.int 15) rfl h1 ⟨t1,rfl⟩) AE))) (AX (i:=2) nd rfl (Or.inl rfl))
    (AF (Az (DD PySem.F.plainAttrs_list PySem.F.slot_list_append PySem.F.type_list_append BM (pv 1) (AA (B4 (pv 0) T.AY T.GZ (Ni T) hr AU (AA (pv 2) AE)) AE)))))
   (AD (Az (DD PySem.F.plainAttrs_list PySem.F.slot_list_append PySem.F.type_list_append BM (pv 1) (AA (B4 (pv 0) T.AY T.C7 (HB T) hr AU (AA (A6 (v:=.int 15) rfl h1 ⟨t1,rfl⟩) AE)) AE)))
   (AF (AO (pv 1))))),?_⟩
  have hs:sizeLine=16777216:=sizeLine_eq
  have hp0:=hp
  obtain⟨c,⟨dx,hpi⟩,hc⟩:=hp
  refine⟨_,rfl,p,dx,_,rfl,hpi,rfl,?_⟩
  refine⟨p,d,1,rfl,hp0,fun H1 s1=>⟨(by show 1<=sizeLine;decide),fun l hl=>?_⟩⟩
  have hl0:H l=none:=s1.free hl
  refine⟨1,15,rfl,(by decide),?_⟩
  show ∃W,_
  refine B6 (lo:=1) (n:=14) (fun i σ H'=>∃v:Option V,σ=[some (.ref p),some (.ref l),v]/\AK H H'/\H' l=some (.lst (nv (Dm.below d 1::((List.range i).map fun i:Nat=>d.at_ ((i:Int)+1)))))) ⟨none,rfl,s1.trans (.new hl),AB⟩ ?_ ?_
  ·rintro i σ H' hi ⟨v,rfl,s2,e2⟩
   refine⟨_,rfl,.inl ⟨rfl,_,SqL.of e2⟩,?_⟩
   refine⟨_,rfl,p,dx,_,rfl,s2 _ _ hpi,rfl,?_⟩
   refine⟨_,rfl,p,d,_,rfl,hp0.same s2,l,_,_,rfl,rfl,e2,?_,?_⟩
   ·rw[Ar,List.length_cons,List.length_map,List.length_range];omega
   ·refine⟨_,rfl,Cp s2 hl0,?_⟩
    rw[AB,List.range_succ,List.map_append]
    unfold nv
    simp only[List.map_cons,List.map_append,List.map_nil,List.cons_append]
    rw[Int.add_comm 1]
  ·rintro σ H' ⟨v,rfl,s2,e2⟩
   refine⟨_,rfl,.inl ⟨rfl,_,SqL.of e2⟩,?_⟩
   refine⟨_,rfl,p,dx,_,rfl,s2 _ _ hpi,rfl,?_⟩
   refine⟨p,d,15,rfl,hp0.same s2,fun H3 s3=>⟨l,_,_,rfl,rfl,s3 _ _ e2,?_,?_⟩⟩
   ·rw[Ar,List.length_cons,List.length_map,List.length_range];omega
   ·refine⟨_,rfl,k l _ (Cp (s2.trans s3) hl0) hl0 ?_⟩
    rw[AB]
    unfold Dm.BX nv
    simp only[List.map_cons,List.map_append,List.map_nil,List.cons_append]
def dm (a:Ad):Sp:=fun vs H Q _=>∃p d,vs=[.ref p]/\DX a H p d/\∀r H',AK H H'->CF a H' r (Vbrgag.actOf true 1 1 d)->Q (.ref r) H'
theorem dn:AL ["healing"] ["healing"] (AG HC):=⟨rfl,rfl,rfl,by decide +kernel,rfl,by decide +kernel,by decide +kernel⟩
theorem du (T:Tx K mg a):Fn P w K mg base CX0 3 a.Ga ["healing"] (dm a):=by
 obtain⟨fd,F,hb⟩:=T.Q8
 refine F.fn hb dn (fun vs H Q E h=>?_) (fun cdv A outer s H vs Q E hr h=>?_)
 ·obtain⟨p,d,rfl,_⟩:=h
  rfl
 ·obtain⟨p,d,rfl,hp,k⟩:=h
  refine⟨_,AF (AO (Dv T.fq (Nh T) hr rfl T.fu AU (AA R0 (AA (Ac (fo T) hr rfl T.Jc AU (AA (pv 0) AE)) AE)))),?_⟩
  refine⟨_,rfl,p,d,rfl,hp,fun l H1 s1 n1 e1=>?_⟩
  intro x dx nx ndx ne
  refine⟨x,dx,_,_,rfl,AB,fun H2 hx2 b2=>⟨rfl,?_⟩⟩
  have s2:AK H1 H2:=.init nx ndx b2
  refine k x H2 (s1.trans s2) ⟨l,⟨dx,hx2⟩,?_⟩
  rw[Dm.ZS]
  exact s2 _ _ e1
def dw (a:Ad):Sp:=fun vs H Q _=>∃p q need d e,vs=[.ref p,.int need,.ref q]/\DX a H p d/\DX a H q e/\Bd 4000 d.total/\Bd 4000 e.total/\∀r H',AK H H'->CF a H' r (Vbrgag.actOf false (Vbrgag.atLeast d need) d.total e)->Q (.ref r) H'
theorem YV:AL ["hit","need","harm","hits","counts","ways"] ["hit","need","harm"] (AG Em):=⟨rfl,rfl,rfl,by decide +kernel,rfl,by decide +kernel,by decide +kernel⟩
theorem aq:GI ["hit","need","harm","hits","counts","ways"] (AG Em) (JN [(".0",.local),("ways",.local),("hits",.free)]) [("ways",5)]:=⟨rfl,by decide +kernel,by decide +kernel,by decide +kernel,by decide +kernel⟩
theorem kr (d:Vbrgag.Dist){i x:Nat}(h:(Dm.BX d)[i]? =some x):x<=d.total:=by
 have h1:=DZ h
 have h2:=Dm.Rt (Dm.BX d)
 rw[Dm.Mz]at h2
 have h3:=Dm.B3 d
 omega
theorem d5 (T:Tx K mg a):Fn P w K mg base CX0 3 a.Gb ["hit","need","harm"] (dw a):=by
 obtain⟨fd,F,hb⟩:=T.Q9
 refine F.fn hb YV (fun vs H Q E h=>?_) (fun cdv A outer s H vs Q E hr h=>?_)
 ·obtain⟨p,q,n,d,e,rfl,_⟩:=h
  rfl
 ·obtain⟨p,q,need,d,e,rfl,hp,hq,bd,be,k⟩:=h
  have nd:=YV.nd
  refine⟨_,AD (AN (i:=3) nd rfl (Or.inr rfl) (B4 (pv 0) T.AY T.C7 (HB T) hr AU (AA (pv 1) AE)))
   (AD (ae (i:=4) rfl nd rfl rfl (X8 rfl rfl rfl rfl) (Cz (Ac (fo T) hr rfl T.Jc AU (AA (pv 2) AE))) aq (fun s H C cl fp=>AX (i:=5) nd rfl (Or.inl rfl)) (fun s H C cl fp=>GJ) (fun s H C cl fp=>AS BK (pv 3) (pv 5)))
   (AD (TY (pv 4) AH PN (AS BK (AS Bm (Ck (pv 0) T.AY T.B9 (He T) hr AU) (pv 3)) (Ck (pv 2) T.AY T.B9 (He T) hr AU)) G6 set_list)
   (AF (AO (Dv T.fq (Nh T) hr rfl T.fu AU (AA R0 (AA (pv 4) AE))))))),?_⟩
  have hs:sizeLine=16777216:=sizeLine_eq
  obtain⟨c1,⟨dx1,hpi⟩,hc1⟩:=id hp
  obtain⟨c2,⟨dx2,hqi⟩,hc2⟩:=id hq
  have hle:=Dm.PQ d need
  refine⟨_,rfl,p,dx1,_,rfl,hpi,rfl,_,rfl,p,d,need,rfl,hp,fun H1 s1=>?_⟩
  refine⟨_,rfl,q,e,rfl,hq.same s1,fun l H2 s2 n2 e2=>?_⟩
  refine⟨l,rfl,⟨_,SqL.of e2⟩,fun D hD=>?_⟩
  have hD0:H D=none:=(s1.trans s2).free hD
  refine OW (K:=K) (a:=l) (xs:=nv (Dm.BX e)) (fun i H'=>AK H2 H'/\H' D=some (.lst (nv (((Dm.BX e).map fun y=>Vbrgag.atLeast d need*y).take i)))) ⟨.new hD,by rw[AB];rfl⟩ (fun i H' _ ⟨s3,_⟩=>SqL.of (s3 _ _ e2)) ?_ ?_
  ·rintro i x H' hi ⟨s3,e3⟩
   obtain⟨y,hy,rfl⟩:=NO hi
   refine⟨rfl,yes ?_⟩
   refine⟨_,rfl,_,rfl,_,_,rfl,rfl,(bd.mono hle).cw (be.mono (kr e hy)) (by decide),_,e3,?_,Cp s3 hD,?_⟩
   ·rw[Ar,List.length_take,List.length_map,Dm.Cq,hs];omega
   ·have hy':((Dm.BX e).map fun y=>Vbrgag.atLeast d need*y)[i]? =some (Vbrgag.atLeast d need*y):=by rw[List.getElem?_map,hy];rfl
    rw[AB,List.take_add_one,hy']
    unfold nv
    simp only[Option.toList_some,List.map_append,List.map_cons,List.map_nil]
    rw[Int.natCast_mul]
  ·rintro H' ⟨s3,e3⟩
   rw[Ar,Dm.Cq,List.take_of_length_le (by rw[List.length_map,Dm.Cq];exact Nat.le_refl _)]at e3
   have s4:AK H H':=(s1.trans s2).trans s3
   have hlen:0<((Dm.BX e).map fun y=>Vbrgag.atLeast d need*y).length:=by rw[List.length_map,Dm.Cq];decide
   refine⟨_,rfl,D,_,0,_,rfl,rfl,SqL.of e3,NN (getD_at hlen),?_⟩
   refine⟨_,rfl,p,dx1,_,rfl,s4 _ _ hpi,rfl,p,d,rfl,hp.same s4,_,rfl,_,_,rfl,rfl,_,rfl,q,dx2,_,rfl,s4 _ _ hqi,rfl,q,e,rfl,hq.same s4,_,_,rfl,rfl,?_,_,_,rfl,rfl,D,_,0,0,rfl,rfl,e3,?_,?_⟩
   ·have ed:((d.total:Nat):Int) - ((Vbrgag.atLeast d need:Nat):Int)=((d.total - Vbrgag.atLeast d need:Nat):Int):=by omega
    show CW (((d.total:Nat):Int) - ((Vbrgag.atLeast d need:Nat):Int)) _
    rw[ed]
    exact(bd.mono (Nat.sub_le _ _)).cw be (by decide)
   ·rw[Ar];exact T7 hlen
   ·refine⟨_,rfl,?_⟩
    intro x dx nx ndx ne
    refine⟨x,dx,_,_,rfl,AB,fun H5 hx5 b5=>⟨rfl,?_⟩⟩
    have s5:=AK.init nx ndx b5
    refine k x H5 ((Cp s4 hD0).trans s5) ⟨D,⟨dx,hx5⟩,?_⟩
    have e6:=s5 D _ AB
    rw[e6,Dm.ZT]
    have ez:(((((Dm.BX e).map fun y=>Vbrgag.atLeast d need*y).getD 0 0:Nat):Int)+(((d.total:Nat):Int) - ((Vbrgag.atLeast d need:Nat):Int))*((e.total:Nat):Int))=((((Dm.BX e).map fun y=>Vbrgag.atLeast d need*y).getD 0 0+(d.total - Vbrgag.atLeast d need)*e.total:Nat):Int):=by
     have ed:((d.total:Nat):Int) - ((Vbrgag.atLeast d need:Nat):Int)=((d.total - Vbrgag.atLeast d need:Nat):Int):=by omega
     rw[ed]
     push_cast
     rfl
    refine Eq.trans (congrArg (fun z=>some (HO.lst ((nv ((Dm.BX e).map fun y=>Vbrgag.atLeast d need*y)).set 0 (V.int z)))) ez) ?_
    show some (HO.lst ((nv ((Dm.BX e).map fun y=>Vbrgag.atLeast d need*y)).set 0 (V.int ((((Dm.BX e).map fun y=>Vbrgag.atLeast d need*y).getD 0 0+(d.total - Vbrgag.atLeast d need)*e.total:Nat):Int))))=_
    rw[XU]
end
end Fd
namespace PySem
theorem Paired.Jn:∀{l:List α}{m:List β},Paired F l m->(∀x y,x∈l->y∈m->F x y->G x y)->Paired G l m
 |_,_,.nil,_=>.nil
 |_,_,.cons r t,f=>.cons (f _ _ List.mem_cons_self List.mem_cons_self r) (Paired.Jn t fun x y hx hy=>f x y (List.mem_cons_of_mem _ hx) (List.mem_cons_of_mem _ hy))
theorem Paired.at_:∀{l:List α}{m:List β}{i:Nat}{y:β},Paired F l m->m[i]? =some y->∃x,l[i]? =some x/\F x y
 |_,_,_,_,.nil,h=>by simp at h
 |_,_,0,_,.cons r t,h=>by
  have e:=Option.some.inj h
  subst e
  exact⟨_,rfl,r⟩
 |_,_,i+1,y,.cons r t,h=>Paired.at_ (i:=i) t h
theorem Paired.at1:∀{l:List α}{m:List β}{i:Nat}{x:α},Paired F l m->l[i]? =some x->∃y,m[i]? =some y/\F x y
 |_,_,_,_,.nil,h=>by simp at h
 |_,_,0,_,.cons r t,h=>by
  have e:=Option.some.inj h
  subst e
  exact⟨_,rfl,r⟩
 |_,_,i+1,y,.cons r t,h=>Paired.at1 (i:=i) t h
end PySem
namespace Fd
open PySem PySem.Spec PyProof.Rows L2
theorem Ol {as:List Addr}{i:Nat}{x:V}(h:(as.map V.ref)[i]? =some x):∃c,as[i]? =some c/\x=.ref c:=by
 rw[List.getElem?_map]at h
 cases e:as[i]? with
 |none=>rw[e]at h;cases h
 |some c=>rw[e]at h;exact⟨c,rfl,(Option.some.inj h).symm⟩
theorem Oh {as:List Addr}{i:Nat}{c:Addr}(h:as[i]? =some c):(as.map V.ref)[i]? =some (.ref c):=by rw[List.getElem?_map,h];rfl
abbrev Side:=Vbrgag.Side
def Uz (a:Ad)(H:Hp)(l:Addr)(acts:List Act):Prop:=∃as:List Addr,H l=some (.lst (as.map V.ref))/\Paired (fun x act=>CF a H x act) as acts
def fE (H:Hp)(l:Addr)(c:Nat)(acts:List Act):Prop:=∃ws:List Addr,H l=some (.lst (ws.map V.ref))/\Paired (fun x act=>H x=some (.lst (nv (Dm.scale c act)))) ws acts
structure A3 (a:Ad)(H:Hp)(x la lw:Addr)(s:Side)(c:Nat):Prop where
 ins:Bt H x a.Side [("most",.int s.hp),("acts",.ref la),("common",.int c),("weights",.ref lw)]
 acts:Uz a H la s.acts
 ws:fE H lw c s.acts
 sd:Dm.Ff s c
theorem Uz.same (h:Uz a H l acts)(s:AK H H'):Uz a H' l acts:=
 let⟨as,e,p⟩:=h
 ⟨as,s _ _ e,p.Jn fun _ _ _ _ q=>q.same s⟩
theorem fE.same (h:fE H l c acts)(s:AK H H'):fE H' l c acts:=
 let⟨as,e,p⟩:=h
 ⟨as,s _ _ e,p.Jn fun _ _ _ _ q=>s _ _ q⟩
theorem A3.same (h:A3 a H x la lw s c)(e:AK H H'):A3 a H' x la lw s c:=⟨h.ins.same e,h.acts.same e,h.ws.same e,h.sd⟩
def jT (x y:Addr)(H H':Hp):Prop:=∀b o,b≠x->b≠y->H b=some o->H' b=some o
section
variable {P:Program}{w:World}{K:PySem.W.Frag}{mg:Str->Option Value}{base:Heap}{a:Ad}
def U0 (a:Ad):Sp:=fun vs H Q _=>∃(x dx:Addr) (n:Nat),vs=[.ref x,.int n]/\H x=some (.ins a.Side dx [])/\∀la lw H',A3 a H' x la lw {hp:=n,acts:=[]} 1->But x H H'->H la=none->H lw=none->la≠lw->Q .non H'
theorem U1:AL ["self","most"] ["self","most"] (AG J8):=⟨rfl,rfl,rfl,by decide +kernel,rfl,by decide +kernel,by decide +kernel⟩
theorem MY (T:Tx K mg a):Fn P w K mg base CX0 1 a.Kf ["self","most"] (U0 a):=by
 obtain⟨fd,F,hb⟩:=T.WT
 refine F.fn hb U1 (fun vs H Q E h=>?_) (fun cdv A outer s H vs Q E hr h=>?_)
 ·obtain⟨x,dx,n,rfl,_⟩:=h
  rfl
 ·obtain⟨x,dx,n,rfl,hx,k⟩:=h
  refine⟨_,AD (BH (pv 0) (pv 1) rfl) (AD (BH (pv 0) (An AE) rfl) (AD (BH (pv 0) AH rfl) (AF (BH (pv 0) (An AE) rfl)))),?_⟩
  refine⟨_,rfl,_,rfl,x,a.Side,dx,[],rfl,hx,T.BA,T.CC,(by show 0<1000;decide),?_⟩
  refine⟨(by show 0<=sizeLine;decide),fun la hla=>?_⟩
  have n1:x≠la:=AM AB hla
  refine⟨_,rfl,x,a.Side,dx,[("most",.int n)],rfl,(by rw[AI n1];exact AB),T.BA,T.BS,(by show 1<1000;decide),?_⟩
  rw[Ak (by decide),BP]
  refine⟨_,rfl,x,a.Side,dx,[("most",.int n),("acts",.ref la)],rfl,AB,T.BA,T.Bz,(by show 2<1000;decide),?_⟩
  rw[Ak (by decide),Ak (by decide),BP]
  refine⟨(by show 0<=sizeLine;decide),fun lw hlw=>?_⟩
  have n2:x≠lw:=AM AB hlw
  refine⟨_,rfl,x,a.Side,dx,[("most",.int n),("acts",.ref la),("common",.int 1)],rfl,(by rw[AI n2];exact AB),T.BA,T.Fu,(by show 3<1000;decide),?_⟩
  rw[Ak (by decide),Ak (by decide),Ak (by decide),BP]
  have n3:la≠lw:=AM (o:=.lst []) (by rw[AI (Ne.symm n1),AI (Ne.symm n1)];exact AB) hlw
  have hla0:H la=none:=by rw[AI (Ne.symm n1)]at hla;exact hla
  have hlw0:H lw=none:=by
   rw[AI (Ne.symm n2),AI (Ne.symm n2),AI (Ne.symm n3),AI (Ne.symm n2)]at hlw
   exact hlw
  refine k la lw _ ⟨⟨dx,AB⟩,⟨[],?_,.nil⟩,⟨[],?_,.nil⟩,Dm.Ff.new n⟩ ?_ hla0 hlw0 n3
  ·rw[AI (Ne.symm n1),AI n3,AI (Ne.symm n1),AI (Ne.symm n1)];exact AB
  ·rw[AI (Ne.symm n2)];exact AB
  ·intro b o nb eb
   rw[AI nb,AI (AM eb hlw0),AI nb,AI nb,AI (AM eb hla0),AI nb]
   exact eb
def mF (a:Ad):Sp:=fun vs H Q _=>∃(x y:Addr) (v1 v2 v3:V) (c:Nat) (act:Act),vs=[.ref x,.ref y]/\Bt H x a.Side [("most",v1),("acts",v2),("common",.int c),("weights",v3)]/\CF a H y act/\Dm.Good act/\c<=2 ^ 756/\Ip H (nv (Dm.scale c act)) Q
theorem iA:AL ["self","act","times","ways"] ["self","act"] (AG Ce):=⟨rfl,rfl,rfl,by decide +kernel,rfl,by decide +kernel,by decide +kernel⟩
theorem jl:GI ["self","act","times","ways"] (AG Ce) (JN [(".0",.local),("ways",.local),("times",.free)]) [("ways",3)]:=⟨rfl,by decide +kernel,by decide +kernel,by decide +kernel,by decide +kernel⟩
theorem mG (T:Tx K mg a):Fn P w K mg base CX0 2 a.DO ["self","act"] (mF a):=by
 obtain⟨fd,F,hb⟩:=T.MP
 refine F.fn hb iA (fun vs H Q E h=>?_) (fun cdv A outer s H vs Q E hr h=>?_)
 ·obtain⟨x,y,v1,v2,v3,c,act,rfl,_⟩:=h
  rfl
 ·obtain⟨x,y,v1,v2,v3,c,act,rfl,⟨dx,hx⟩,hy,g,hc,k⟩:=h
  have nd:=iA.nd
  refine⟨_,AD (AN (i:=2) nd rfl (Or.inr rfl) (AS L5 (AJ (pv 0) rfl) (Ck (pv 1) T.Kx T.JH (Hv T) hr AU)))
   (AF (AO (SF rfl nd (Cz (AJ (pv 1) rfl)) jl (fun s H C cl fp=>AX (i:=3) nd rfl (Or.inl rfl)) (fun s H C cl fp=>GJ) (fun s H C cl fp=>AS BK (pv 3) (pv 2))))),?_⟩
  have hs:sizeLine=16777216:=sizeLine_eq
  obtain⟨c1,⟨dy,hyi⟩,hc1⟩:=id hy
  have hb1:Bd 253 act.total:=Ng g.bd
  refine⟨_,rfl,x,a.Side,dx,_,_,rfl,hx,T.BA,T.Bz,rfl,_,rfl,y,dy,_,rfl,hyi,rfl,y,act,rfl,hy,_,_,rfl,rfl,?_,?_⟩
  ·rw[g.sum];exact hb1.cd (by decide) g.pos
  have et:((c:Nat):Int) / ((act.outs.sum:Nat):Int)=((c / act.total:Nat):Int):=by rw[g.sum];exact(Int.natCast_ediv c act.total).symm
  set_option simprocs false in dsimp only
  rw[et]
  refine⟨_,rfl,y,a.Act,dy,_,_,rfl,hyi,T.Kx,T.FA,rfl,c1,rfl,⟨_,SqL.of hc1⟩,fun D hD=>?_⟩
  refine OW (K:=K) (a:=c1) (xs:=nv act.outs) (fun i H'=>AK H H'/\H' D=some (.lst (nv ((Dm.scale c act).take i)))) ⟨.new hD,by rw[AB];rfl⟩ (fun i H' _ ⟨s3,_⟩=>SqL.of (s3 _ _ hc1)) ?_ ?_
  ·rintro i v H' hi ⟨s3,e3⟩
   obtain⟨z,hz,rfl⟩:=NO hi
   have hz1:z<=act.total:=by rw[<-g.sum];exact DZ hz
   have hc2:Bd 757 (c / act.total):=(Ng hc).mono (Nat.div_le_self _ _)
   refine⟨rfl,yes ?_⟩
   refine⟨_,rfl,_,rfl,_,_,rfl,rfl,(hb1.mono hz1).cw hc2 (by decide),_,e3,?_,Cp s3 hD,?_⟩
   ·rw[Ar,List.length_take,Dm.Hl c g,hs];omega
   ·have hz':(Dm.scale c act)[i]? =some (z*(c / act.total)):=by unfold Dm.scale;rw[List.getElem?_map,hz];rfl
    rw[AB,List.take_add_one,hz']
    unfold nv
    simp only[Option.toList_some,List.map_append,List.map_cons,List.map_nil]
    rw[Int.natCast_mul]
  ·rintro H' ⟨s3,e3⟩
   rw[Ar,g.len,List.take_of_length_le (by rw[Dm.Hl c g];exact Nat.le_refl _)]at e3
   exact k D H' s3 hD e3
def jm (a:Ad):Sp:=fun vs H Q _=>∃(x la lw y:Addr) (s:Side) (c:Nat) (act:Act),vs=[.ref x,.ref y]/\A3 a H x la lw s c/\CF a H y act/\Dm.Good act/\s.acts.length<3/\
 ∀lw' H',A3 a H' x la lw' {s with acts:=s.acts++[act]} (Nat.lcm c act.total)->H lw'=none->jT x la H H'->Q .non H'
theorem cI:AL ["self","act","each"] ["self","act"] (AG EC):=⟨rfl,rfl,rfl,by decide +kernel,rfl,by decide +kernel,by decide +kernel⟩
theorem fF:GI ["self","act","each"] (AG EC) (JN [(".0",.local),("each",.local),("self",.free)]) [("each",2)]:=⟨rfl,by decide +kernel,by decide +kernel,by decide +kernel,by decide +kernel⟩
theorem jU (T:Tx K mg a):Fn P w K mg base CX0 3 a.FW ["self","act"] (jm a):=by
 obtain⟨fd,F,hb⟩:=T.QE
 refine F.fn hb cI (fun vs H Q E h=>?_) (fun cdv A outer s H vs Q E hr h=>?_)
 ·obtain⟨x,la,lw,y,s,c,act,rfl,_⟩:=h
  rfl
 ·obtain⟨x,la,lw,y,sd,c,act,rfl,hS,hy,g,hlen,k⟩:=h
  have nd:=cI.nd
  refine⟨_,AD (Az (DD PySem.F.plainAttrs_list PySem.F.slot_list_append PySem.F.type_list_append BM (AJ (pv 0) rfl) (AA (pv 1) AE)))
   (AD (BH (pv 0) (Ac (lO T) hr rfl T.MO AU (AA (AJ (pv 0) rfl) (AA (Ck (pv 1) T.Kx T.JH (Hv T) hr AU) AE))) rfl)
   (AF (BH (pv 0) (SF rfl nd (Cz (AJ (pv 0) rfl)) fF (fun s H C cl fp=>AX (i:=2) nd rfl (Or.inl rfl)) (fun s H C cl fp=>GJ) (fun s H C cl fp=>B4 (pv 0) T.BA T.MQ (mG T) hr AU (AA (pv 2) AE))) rfl))),?_⟩
  have hs:sizeLine=16777216:=sizeLine_eq
  obtain⟨⟨dx,hx⟩,⟨as,hla,pas⟩,⟨ws,hlw,pws⟩,hsd⟩:=hS
  have las:as.length=sd.acts.length:=pas.length
  have nxl:x≠la:=Af hx hla (by intro z;cases z)
  refine⟨_,rfl,x,a.Side,dx,_,_,rfl,hx,T.BA,T.BS,rfl,.inl ⟨rfl,_,SqL.of hla⟩,_,rfl,la,_,_,rfl,rfl,hla,(by rw[List.length_map];omega),?_⟩
  have eas:as.map V.ref++[V.ref y]=(as++[y]).map V.ref:=by rw[List.map_append];rfl
  rw[eas]
  have hbut:∀b o,b≠la->H b=some o->(upd H la (.lst ((as++[y]).map V.ref))) b=some o:=fun b o nb e=>by rw[AI nb];exact e
  have actk:∀z act',CF a H z act'->act'.outs.length=16->CF a (upd H la (.lst ((as++[y]).map V.ref))) z act':=fun z act' h16 hl=>by
   obtain⟨c',⟨dz,hz⟩,hc'⟩:=h16
   refine⟨c',⟨dz,hbut _ _ (Af hz hla (by intro q;cases q)) hz⟩,hbut _ _ (Af hc' hla ?_) hc'⟩
   intro q
   injection q with q
   have:=congrArg List.length q
   rw[Ar,List.length_map]at this
   omega
  have hx1:=hbut _ _ nxl hx
  have hy1:=actk y act hy g.len
  obtain⟨cy,⟨dy,hyi⟩,hcy⟩:=id hy1
  refine⟨_,rfl,x,a.Side,dx,_,_,rfl,hx1,T.BA,T.Bz,rfl,_,rfl,y,dy,_,rfl,hyi,rfl,y,act,rfl,hy1,?_⟩
  rw[g.sum]
  refine⟨c,act.total,rfl,hsd.pos,g.pos,(Ng hsd.bd3).more (by decide),(Ng g.bd).more (by decide),?_⟩
  have hsd2:=hsd.more g hlen
  generalize hcc:Nat.lcm c act.total=c2 at hsd2 k
  refine⟨_,rfl,x,a.Side,dx,_,rfl,hx1,T.BA,T.Bz,(by show 4<1000;decide),?_⟩
  have ep:ER "common" (V.int ((c2:Nat):Int)) ([("most",.int sd.hp),("acts",.ref la),("common",.int c),("weights",.ref lw)]:List (Str×V))=([("most",.int sd.hp),("acts",.ref la),("common",.int c2),("weights",.ref lw)]:List (Str×V)):=by rw[Ak (by decide),Ak (by decide),IE]
  rw[ep]
  generalize hH2:upd (upd H la (.lst ((as++[y]).map V.ref))) x (.ins a.Side dx [("most",.int sd.hp),("acts",.ref la),("common",.int c2),("weights",.ref lw)])=H2
  have k2:∀b o,b≠x->(upd H la (.lst ((as++[y]).map V.ref))) b=some o->H2 b=some o:=fun b o nb e=>by rw[<-hH2,AI nb];exact e
  have hx2:H2 x=some (.ins a.Side dx [("most",.int sd.hp),("acts",.ref la),("common",.int c2),("weights",.ref lw)]):=by rw[<-hH2];exact AB
  have hla2:H2 la=some (.lst ((as++[y]).map V.ref)):=k2 _ _ (Ne.symm nxl) AB
  have actk2:∀z act',CF a H z act'->act'.outs.length=16->CF a H2 z act':=fun z act' h1 h2=>by
   obtain⟨c',⟨dz,hz⟩,hc'⟩:=actk z act' h1 h2
   refine⟨c',⟨dz,k2 _ _ (Af hz hx1 ?_) hz⟩,k2 _ _ (Af hc' hx1 (by intro q;cases q)) hc'⟩
   intro q
   injection q with q1 q2 q3
   cases q3
  have pas2:Paired (fun z act'=>CF a H2 z act') (as++[y]) (sd.acts++[act]):=(pas.Jn fun z act' _ hm h1=>actk2 z act' h1 (hsd.good act' hm).1.len).snoc (actk2 y act hy g.len)
  have good2:∀act'∈sd.acts++[act],Dm.Good act':=fun act' hm=>(hsd2.good act' hm).1
  refine⟨_,rfl,x,a.Side,dx,_,_,rfl,hx2,T.BA,T.BS,rfl,la,rfl,⟨_,SqL.of hla2⟩,fun D hD=>?_⟩
  refine OW (K:=K) (a:=la) (xs:=(as++[y]).map V.ref) (fun i H'=>AK H2 H'/\∃ws':List Addr,H' D=some (.lst (ws'.map V.ref))/\Paired (fun z act'=>H' z=some (.lst (nv (Dm.scale c2 act')))) ws' ((sd.acts++[act]).take i)) ⟨.new hD,[],AB,.nil⟩ (fun i H' _ ⟨s3,_⟩=>SqL.of (s3 _ _ hla2)) ?_ ?_
  ·rintro i v H' hi ⟨s3,ws',e3,p3⟩
   obtain⟨z,hz,rfl⟩:=Ol hi
   obtain⟨act',hact,ha'⟩:=pas2.at1 hz
   refine⟨rfl,yes ?_⟩
   refine⟨_,rfl,x,dx,_,rfl,s3 _ _ hx2,rfl,_,rfl,x,z,_,_,_,c2,act',rfl,⟨dx,s3 _ _ hx2⟩,ha'.same s3,good2 act' (List.mem_of_getElem? hact),hsd2.bd3,fun q H4 s4 n4 e4=>?_⟩
   have ws'l:ws'.length<=3:=by
    have:=p3.length
    rw[List.length_take,List.length_append,List.length_singleton]at this
    omega
   refine⟨_,s4 _ _ e3,(by rw[List.length_map,hs];omega),Cp (s3.trans s4) hD,ws'++[q],?_,?_⟩
   ·rw[AB,List.map_append];rfl
   ·rw[List.take_add_one,hact]
    have nq:∀b o,b≠D->H4 b=some o->(upd H4 D (.lst (ws'.map V.ref++[V.ref q]))) b=some o:=fun b o nb e=>by rw[AI nb];exact e
    have nD:∀b o,H' b=some (.lst (nv o))->o.length=16->b≠D:=fun b o e hl=>Af e e3 fun q=>by
     injection q with q
     have:=congrArg List.length q
     rw[Ar,List.length_map]at this
     omega
    refine(p3.Jn fun b ac hb hac e=>?_).snoc ?_
    ·refine nq _ _ (nD _ _ e ?_) (s4 _ _ e)
     exact Dm.Hl c2 (good2 ac (List.mem_of_mem_take hac))
    ·refine nq _ _ ?_ e4
     intro z
     have:=s4 _ _ e3
     rw[z,this]at e4
     injection e4 with e4
     injection e4 with e4
     have:=congrArg List.length e4
     rw[Ar,List.length_map,Dm.Hl c2 (good2 act' (List.mem_of_getElem? hact))]at this
     omega
  ·rintro H' ⟨s3,ws',e3,p3⟩
   rw[List.length_map,List.length_append,List.length_singleton,las,List.take_of_length_le (by rw[List.length_append,List.length_singleton];exact Nat.le_refl _)]at p3
   have nDx:D≠x:=fun z=>by rw[z,hx2]at hD;cases hD
   have nDl:D≠la:=fun z=>by rw[z,hla2]at hD;cases hD
   refine⟨_,rfl,x,a.Side,dx,_,rfl,s3 _ _ hx2,T.BA,T.Fu,(by show 4<1000;decide),?_⟩
   have ep2:ER "weights" (V.ref D) ([("most",.int sd.hp),("acts",.ref la),("common",.int c2),("weights",.ref lw)]:List (Str×V))=([("most",.int sd.hp),("acts",.ref la),("common",.int c2),("weights",.ref D)]:List (Str×V)):=by rw[Ak (by decide),Ak (by decide),Ak (by decide),IE]
   rw[ep2]
   have k5:∀b o,b≠x->H' b=some o->(upd H' x (.ins a.Side dx [("most",.int sd.hp),("acts",.ref la),("common",.int c2),("weights",.ref D)])) b=some o:=fun b o nb e=>by rw[AI nb];exact e
   have hx3:=s3 _ _ hx2
   have hD0:H D=none:=by
    cases q:H D with
    |none=>rfl
    |some o=>
     have:=k2 D o nDx (hbut D o nDl q)
     rw[hD]at this;cases this
   refine k D _ ⟨⟨dx,AB⟩,⟨as++[y],k5 _ _ (Ne.symm nxl) (s3 _ _ hla2),pas2.Jn fun z ac _ _ h=>?_⟩,⟨ws',k5 _ _ nDx e3,p3.Jn fun z ac _ _ h=>k5 _ _ (Af h hx3 (by intro q;cases q)) h⟩,hsd2⟩ hD0 ?_
   ·obtain⟨c',⟨dz,hz⟩,hc'⟩:=h.same s3
    refine⟨c',⟨dz,k5 _ _ (Af hz hx3 ?_) hz⟩,k5 _ _ (Af hc' hx3 (by intro q;cases q)) hc'⟩
    intro q
    injection q with q1 q2 q3
    cases q3
   ·intro b o n1 n2 e
    exact k5 b o n1 (s3 _ _ (k2 b o n1 (hbut b o n2 e)))
end
abbrev Duel:=Vbrgag.Duel
def TableAt (a:Ad)(H:Hp)(t:Addr)(m1 m2:Nat)(num:Nat->Nat->Nat)(den:Nat):Prop:=∃(la:Addr) (rows:List Addr),Bt H t a.Table [("above",.ref la),("below",.int den)]/\H la=some (.lst (rows.map V.ref))/\rows.length=m1+1/\
 ∀i r,rows[i]? =some r->H r=some (.lst (nv ((List.range (m2+1)).map fun b=>num i b)))
theorem TableAt.same (h:TableAt a H t m1 m2 num den)(s:AK H H'):TableAt a H' t m1 m2 num den:=
 let⟨la,rows,i,e,n,r⟩:=h
 ⟨la,rows,i.same s,s _ _ e,n,fun j q hq=>s _ _ (r j q hq)⟩
def Gd (a:Ad)(H:Hp)(l:Addr)(D:Duel)(c0 c1:Nat):Prop:=∃x0 la0 lw0 x1 la1 lw1,H l=some (.lst [.ref x0,.ref x1])/\A3 a H x0 la0 lw0 D.first c0/\A3 a H x1 la1 lw1 D.second c1
theorem Gd.same (h:Gd a H l D c0 c1)(s:AK H H'):Gd a H' l D c0 c1:=
 let⟨x0,la0,lw0,x1,la1,lw1,e,s0,s1⟩:=h
 ⟨x0,la0,lw0,x1,la1,lw1,s _ _ e,s0.same s,s1.same s⟩
def Aw (mine:Bool):Int:=if mine=true then 0 else 1
def cOf (mine:Bool)(c0 c1:Nat):Nat:=if mine=true then c0 else c1
theorem Gd.own (h:Gd a H l D c0 c1)(mine:Bool):∃xs x la lw,∃n:Nat,H l=some (.lst xs)/\Aw mine=(n:Int)/\xs[n]? =some (.ref x)/\A3 a H x la lw (D.side mine) (cOf mine c0 c1):=by
 obtain⟨x0,la0,lw0,x1,la1,lw1,e,s0,s1⟩:=h
 cases mine with
 |true=>exact⟨_,x0,la0,lw0,0,e,rfl,rfl,s0⟩
 |false=>exact⟨_,x1,la1,lw1,1,e,rfl,rfl,s1⟩
section
variable {P:Program}{w:World}{K:PySem.W.Frag}{mg:Str->Option Value}{base:Heap}{a:Ad}
def RB (a:Ad):Sp:=fun vs H Q _=>∃x dx v1 v2,vs=[.ref x,v1,v2]/\H x=some (.ins a.Table dx [])/\∀H',H' x=some (.ins a.Table dx [("above",v1),("below",v2)])->But x H H'->Q .non H'
theorem RC:AL ["self","above","below"] ["self","above","below"] (AG IC):=⟨rfl,rfl,rfl,by decide +kernel,rfl,by decide +kernel,by decide +kernel⟩
theorem K2 (T:Tx K mg a):Fn P w K mg base CX0 1 a.ID ["self","above","below"] (RB a):=by
 obtain⟨fd,F,hb⟩:=T.UB
 refine F.fn hb RC (fun vs H Q E h=>?_) (fun cdv A outer s H vs Q E hr h=>?_)
 ·obtain⟨x,dx,v1,v2,rfl,_⟩:=h
  rfl
 ·obtain⟨x,dx,v1,v2,rfl,hx,k⟩:=h
  refine⟨_,AD (BH (pv 0) (pv 1) rfl) (AF (BH (pv 0) (pv 2) rfl)),?_⟩
  refine⟨_,rfl,_,rfl,x,a.Table,dx,[],rfl,hx,T.E9,T.Eg,(by show 0<1000;decide),?_⟩
  refine⟨_,rfl,_,rfl,x,a.Table,dx,_,rfl,AB,T.E9,T.DB,(by show 1<1000;decide),?_⟩
  exact k _ (by rw[AB,BP,Ak (by decide),BP]) (But.upd.trans But.upd)
def kz (a:Ad):Sp:=fun vs H Q _=>∃(x:Addr) (v1 v2 v3:V) (hp now pts:Nat) (h:Bool),vs=[.ref x,.int now,.bl h,.int pts]/\Bt H x a.Side [("most",.int hp),("acts",v1),("common",v2),("weights",v3)]/\Q (.int ((if h=true then min (now+pts) hp else now - pts:Nat):Int)) H
theorem k9:AL ["side","now","heals","points"] ["side","now","heals","points"] (AG E7):=⟨rfl,rfl,rfl,by decide +kernel,rfl,by decide +kernel,by decide +kernel⟩
theorem fz (T:Tx K mg a):Fn P w K mg base CX0 1 a.En ["side","now","heals","points"] (kz a):=by
 obtain⟨fd,F,hb⟩:=T.OA
 refine F.fn hb k9 (fun vs H Q E h=>?_) (fun cdv A outer s H vs Q E hr h=>?_)
 ·obtain⟨x,v1,v2,v3,hp,now,pts,h,rfl,_⟩:=h
  rfl
 ·obtain⟨x,v1,v2,v3,hp,now,pts,h,rfl,⟨dx,hx⟩,k⟩:=h
  refine⟨_,AD (BR (LC (pv 2)) (AF (AO (AZ (Y9 rfl) rfl T.f6 ay (AA (AJ (pv 0) rfl) (AA (AS Ba (pv 1) (pv 3)) AE))))) Al)
   (AF (AO (AZ (KO rfl) rfl T.Vs Pa (AA AH (AA (AS Bm (pv 1) (pv 3)) AE))))),?_⟩
  refine⟨_,rfl,_,rfl,?_⟩
  cases h with
  |true=>
   refine LB ⟨_,rfl,x,a.Side,dx,_,_,rfl,hx,T.BA,T.CC,rfl,_,rfl,_,rfl,_,_,rfl,rfl,_,_,rfl,?_⟩
   have e:(if(now:Int)+(pts:Int)<(hp:Int)then(now:Int)+(pts:Int)else(hp:Int))=((min (now+pts) hp:Nat):Int):=by
    by_cases h:now+pts<hp
    ·rw[if_pos (by omega)];omega
    ·rw[if_neg (by omega)];omega
   rw[e]
   rw[if_pos rfl]at k
   exact k
  |false=>
   refine N6 ⟨_,rfl,_,rfl,_,_,rfl,rfl,_,_,rfl,?_⟩
   have e:(if(now:Int) - (pts:Int)>0 then(now:Int) - (pts:Int)else 0)=((now - pts:Nat):Int):=by rw[d7];omega
   rw[e]
   rw[if_neg Bool.false_ne_true]at k
   exact k
structure Known (a:Ad)(H:Hp)(l t:Addr)(D:Duel)(c0 c1:Nat)(num:Nat->Nat->Nat)(den:Nat):Prop where
 JD:Gd a H l D c0 c1
 table:TableAt a H t D.first.hp D.second.hp num den
 le:∀x y,x<=D.first.hp->y<=D.second.hp->num x y<=den
 bd:Bd 5300 den
theorem Known.same (h:Known a H l t D c0 c1 num den)(s:AK H H'):Known a H' l t D c0 c1 num den:=⟨h.JD.same s,h.table.same s,h.le,h.bd⟩
def lA (a:Ad):Sp:=fun vs H Q _=>∃(l t:Addr) (mine:Bool) (pl x y:Nat) (D:Duel) (c0 c1:Nat) (num:Nat->Nat->Nat) (den:Nat) (act:Act),vs=[.ref l,.int (Aw mine),.int pl,.int x,.int y,.ref t]/\Known a H l t D c0 c1 num den/\
 (D.side mine).acts[pl]? =some act/\x<=D.first.hp/\y<=D.second.hp/\∀H',AK H H'->Q (.int (Dm.Dc D mine act (cOf mine c0 c1) num x y:Nat)) H'
theorem f7:AL ["sides","who","place","a","b","behind","heals","touched","worth","points","weight"] ["sides","who","place","a","b","behind"] (AG Jg):=⟨rfl,rfl,rfl,by decide +kernel,rfl,by decide +kernel,by decide +kernel⟩
theorem Vt (f:Nat->Nat)(h:b<=m):((List.range (m+1)).map fun b=>f b)[b]? =some (f b):=by
 rw[List.getElem?_map,List.getElem?_range (by omega)];rfl
theorem f9 (T:Tx K mg a):Fn P w K mg base CX0 2 a.KY ["sides","who","place","a","b","behind"] (lA a):=by
 obtain⟨fd,F,hb⟩:=T.Vu
 refine F.fn hb f7 (fun vs H Q E h=>?_) (fun cdv A outer s H vs Q E hr h=>?_)
 ·obtain⟨l,t,mine,pl,x,y,D,c0,c1,num,den,act,rfl,_⟩:=h
  rfl
 ·obtain⟨l,t,mine,pl,x,y,D,c0,c1,num,den,act,rfl,kn,hact,hx,hy,k⟩:=h
  have nd:=f7.nd
  refine⟨_,AD (AN (i:=6) nd rfl (Or.inl rfl) (AJ (Aa AR (AJ (Aa AR (pv 0) (pv 1) (fun _ _=>rfl)) rfl) (pv 2) (fun _ _=>rfl)) rfl))
   (AD (AN (i:=7) nd rfl (Or.inl rfl) (Es (LC (pv 6)) (pv 1) (AS Bm AH (pv 1))))
   (AD (AN (i:=8) nd rfl (Or.inl rfl) AH)
   (AD (BD PassesOwn.never rfl (KJ rfl T.Dj (AA (Aa AR (AJ (Aa AR (pv 0) (pv 1) (fun _ _=>rfl)) rfl) (pv 2) (fun _ _=>rfl)) AE)) (Hw rfl (BL (AX (i:=9) nd rfl (Or.inl rfl)) (BL (AX (i:=10) nd rfl (Or.inl rfl)) FC)))
    (AF (BR (Ag DC (pv 7) AH (Am _))
     (AF (LH (i:=8) nd rfl (Or.inl rfl) (AS BK (pv 10) (Aa AR (Aa AR (AJ (pv 5) rfl) (Ac (fz T) hr rfl T.Ij AU (AA (Aa AR (pv 0) AH (fun _ _=>rfl)) (AA (pv 3) (AA (pv 6) (AA (pv 9) AE))))) (fun _ _=>rfl)) (pv 4) (fun _ _=>rfl))) G6))
     (AF (LH (i:=8) nd rfl (Or.inl rfl) (AS BK (pv 10) (Aa AR (Aa AR (AJ (pv 5) rfl) (pv 3) (fun _ _=>rfl)) (Ac (fz T) hr rfl T.Ij AU (AA (Aa AR (pv 0) AH (fun _ _=>rfl)) (AA (pv 4) (AA (pv 6) (AA (pv 9) AE))))) (fun _ _=>rfl))) G6)))))
   (AF (AO (pv 8)))))),?_⟩
  obtain⟨xs,sx,la,lw,n,el,ew,en,sx'⟩:=kn.JD.own mine
  obtain⟨⟨dx,hsx⟩,⟨as,hla,pas⟩,⟨ws,hlw,pws⟩,hsd⟩:=sx'
  obtain⟨za,hza,⟨ca,⟨da,hzi⟩,hca⟩⟩:=pas.at_ hact
  obtain⟨zw,hzw,hwl⟩:=pws.at_ hact
  obtain⟨gd,dv⟩:=hsd.good act (List.mem_of_getElem? hact)
  refine⟨_,rfl,_,rfl,l,_,_,_,rfl,rfl,SqL.of el,at_of ew en,sx,a.Side,dx,_,_,rfl,hsx,T.BA,T.BS,rfl,_,rfl,la,_,_,_,rfl,rfl,SqL.of hla,BO (Oh hza),za,a.Act,da,_,_,rfl,hzi,T.Kx,T.JI,rfl,?_⟩
  generalize htc:(if act.heals=true then Aw mine else 1 - Aw mine)=tc
  have g6:∀{σ:L2.St}{H':Hp},σ[6]? =some (some (.bl act.heals))->σ[1]? =some (some (.int (Aw mine)))->Gives (tIf (tB (Ae 6)) (Ae 1) (tOp (rI0 fun i j=>.int (i - j)) (tC (.int 1)) (Ae 1))) σ H' (.int tc):=fun{σ H'} e6 e1 Q q=>by
   rw[<-htc]at q
   refine⟨_,e6,_,rfl,?_⟩
   cases hh:act.heals with
   |true=>rw[hh,if_pos rfl]at q;exact LB ⟨_,e1,q⟩
   |false=>rw[hh,if_neg Bool.false_ne_true]at q;exact N6 ⟨_,e1,_,_,rfl,rfl,q⟩
  refine sq_ (E2 (g6 rfl rfl) ?_)
  refine⟨_,rfl,_,rfl,l,_,_,_,rfl,rfl,SqL.of el,at_of ew en,sx,a.Side,dx,_,_,rfl,hsx,T.BA,T.Fu,rfl,_,rfl,lw,_,_,_,rfl,rfl,SqL.of hlw,BO (Oh hzw),zw,_,rfl,SqL.of hwl,?_⟩
  generalize hf:(fun z=>num (Dm.FG D mine act x y z).1 (Dm.FG D mine act x y z).2)=f
  have hk:∀H',AK H H'->Q (.int (Dm.SN f (Dm.scale (cOf mine c0 c1) act):Nat)) H':=by rw[<-hf];exact k
  refine HX (K:=K) (a:=zw) (xs:=nv (Dm.scale (cOf mine c0 c1) act)) (fun i σ H'=>∃v9 v10:Option V,σ=[some (.ref l),some (.int (Aw mine)),some (.int pl),some (.int x),some (.int y),some (.ref t),some (.bl act.heals),some (.int tc),some (.int (Dm.SN f ((Dm.scale (cOf mine c0 c1) act).take i):Nat)),v9,v10]/\AK H H')
   ⟨none,none,rfl,.refl H⟩ (fun i σ H' _ ⟨_,_,_,s3⟩=>SqL.of (s3 _ _ hwl)) ?_ ?_
  ·rintro i v σ H' T1 hi ⟨v9,v10,rfl,s3⟩ hT1
   obtain⟨z,hz,rfl⟩:=NO hi
   refine⟨T1,_,rfl,SqT.of AB,rfl,_,_,rfl,_,_,rfl,rfl,?_⟩
   have s4:AK H (upd H' T1 (.tup [.int (i:Nat),.int z])):=s3.trans (.new hT1)
   generalize upd H' T1 (.tup [.int (i:Nat),.int z])=H4 at s4
   obtain⟨lt,rows,⟨dt,hti⟩,hlt,hrl,hrow⟩:=kn.table.same s4
   obtain⟨x0,la0,lw0,x1,la1,lw1,el4,S0,S1⟩:=kn.JD.same s4
   obtain⟨d0,hs0⟩:=S0.ins
   obtain⟨d1,hs1⟩:=S1.ins
   have hzc:Bd 757 z:=(Ng hsd.bd3).mono (by rw[<-Dm.SY gd dv];exact DZ hz)
   obtain⟨gi1,gi2⟩:=Dm.OZ D mine act i hx hy
   have hnum:Bd 5300 (f i):=kn.bd.mono (by rw[<-hf];exact kn.le _ _ gi1 gi2)
   have hsn:=Dm.d8 (f:=f) hz
   have row:∀u,u<=D.first.hp->∃r,rows[u]? =some r/\H4 r=some (.lst (nv ((List.range (D.second.hp+1)).map fun b=>num u b))):=fun u hu=>by
    have:u<rows.length:=by omega
    exact⟨_,List.getElem?_eq_getElem this,hrow u _ (List.getElem?_eq_getElem this)⟩
   have fin:∀zz:Int,zz=((Dm.SN f ((Dm.scale (cOf mine c0 c1) act).take i):Nat):Int)+(z:Int)*((f i:Nat):Int)->zz=((Dm.SN f ((Dm.scale (cOf mine c0 c1) act).take (i+1)):Nat):Int):=fun zz e=>by
    rw[e,hsn,Int.natCast_add,Int.natCast_mul]
   refine BN (AQ rfl) Ax ?_
   refine BY (fun h0=>?_) (fun h0=>?_)
   ·have h0:tc=0:=of_decide_eq_true h0
    have hg:Dm.FG D mine act x y i=((if act.heals=true then min (x+i) D.first.hp else x - i),y):=by
     unfold Dm.FG
     rw[<-htc]at h0
     cases mine with
     |true=>
      cases hh:act.heals with
      |true=>rfl
      |false=>rw[hh]at h0;exact absurd h0 (by decide)
     |false=>
      cases hh:act.heals with
      |true=>rw[hh]at h0;exact absurd h0 (by decide)
      |false=>rfl
    rw[hg]at gi1 gi2
    obtain⟨r,hr1,hr2⟩:=row _ gi1
    have hfi:f i=num (if act.heals=true then min (x+i) D.first.hp else x - i) y:=by rw[<-hf];show num _ _=_;rw[hg]
    refine⟨_,rfl,_,rfl,_,rfl,t,a.Table,dt,_,_,rfl,hti,T.E9,T.Eg,rfl,_,rfl,l,_,_,_,rfl,rfl,SqL.of el4,BO (j:=0) rfl,_,rfl,_,rfl,_,rfl,x0,_,_,_,D.first.hp,x,i,act.heals,rfl,⟨d0,hs0⟩,?_⟩
    refine⟨lt,_,_,_,rfl,rfl,SqL.of hlt,BO (Oh hr1),_,rfl,r,_,_,_,rfl,rfl,SqL.of hr2,BO (NN (Vt (fun b=>num _ b) hy)),_,_,rfl,rfl,?_,_,_,rfl,rfl,?_⟩
    ·rw[<-hfi];exact hzc.cw hnum (by decide)
    ·refine⟨some (V.int ((i:Nat):Int)),some (V.int ((z:Nat):Int)),?_,s4⟩
     rw[<-fin _ rfl,hfi]
     rfl
   ·have h0:¬tc=0:=fun q=>h0 (decide_eq_true q)
    have hg:Dm.FG D mine act x y i=(x,(if act.heals=true then min (y+i) D.second.hp else y - i)):=by
     unfold Dm.FG
     rw[<-htc]at h0
     cases mine with
     |true=>
      cases hh:act.heals with
      |true=>rw[hh]at h0;exact absurd rfl h0
      |false=>rfl
     |false=>
      cases hh:act.heals with
      |true=>rfl
      |false=>rw[hh]at h0;exact absurd rfl h0
    rw[hg]at gi1 gi2
    obtain⟨r,hr1,hr2⟩:=row _ gi1
    have hfi:f i=num x (if act.heals=true then min (y+i) D.second.hp else y - i):=by rw[<-hf];show num _ _=_;rw[hg]
    refine⟨_,rfl,_,rfl,_,rfl,t,a.Table,dt,_,_,rfl,hti,T.E9,T.Eg,rfl,_,rfl,lt,_,_,_,rfl,rfl,SqL.of hlt,BO (Oh hr1),_,rfl,l,_,_,_,rfl,rfl,SqL.of el4,BO (j:=1) rfl,_,rfl,_,rfl,_,rfl,x1,_,_,_,D.second.hp,y,i,act.heals,rfl,⟨d1,hs1⟩,?_⟩
    refine⟨r,_,_,_,rfl,rfl,SqL.of hr2,BO (NN (Vt (fun b=>num _ b) gi2)),_,_,rfl,rfl,?_,_,_,rfl,rfl,?_⟩
    ·rw[<-hfi];exact hzc.cw hnum (by decide)
    ·refine⟨some (V.int ((i:Nat):Int)),some (V.int ((z:Nat):Int)),?_,s4⟩
     rw[<-fin _ rfl,hfi]
     rfl
  ·rintro σ H' ⟨v9,v10,rfl,s3⟩
   refine⟨_,rfl,?_⟩
   rw[Ar,List.take_of_length_le (Nat.le_refl _)]
   exact hk H' s3
def jZ (a:Ad):Sp:=fun vs H Q _=>∃(l t:Addr) (mine:Bool) (x y:Nat) (D:Duel) (c0 c1:Nat) (num:Nat->Nat->Nat) (den:Nat),vs=[.ref l,.int (Aw mine),.int x,.int y,.ref t]/\Known a H l t D c0 c1 num den/\
 x<=D.first.hp/\y<=D.second.hp/\Ip H (nv (Dm.Dq D mine (cOf mine c0 c1) num x y)) Q
theorem bX:AL ["sides","who","a","b","behind","place"] ["sides","who","a","b","behind"] (AG FN):=⟨rfl,rfl,rfl,by decide +kernel,rfl,by decide +kernel,by decide +kernel⟩
theorem eQ:GI ["sides","who","a","b","behind","place"] (AG FN) (JN [(".0",.local),("place",.local),("act_worth",.globalImplicit),("a",.free),("b",.free),("behind",.free),("sides",.free),("who",.free)]) [("place",5)]:=⟨rfl,by decide +kernel,by decide +kernel,by decide +kernel,by decide +kernel⟩
theorem Z6 (T:Tx K mg a):Fn P w K mg base CX0 3 a.IK ["sides","who","a","b","behind"] (jZ a):=by
 obtain⟨fd,F,hb⟩:=T.UN
 refine F.fn hb bX (fun vs H Q E h=>?_) (fun cdv A outer s H vs Q E hr h=>?_)
 ·obtain⟨l,t,mine,x,y,D,c0,c1,num,den,rfl,_⟩:=h
  rfl
 ·obtain⟨l,t,mine,x,y,D,c0,c1,num,den,rfl,kn,hx,hy,k⟩:=h
  have nd:=bX.nd
  refine⟨_,AF (AO (SF rfl nd (Bo rfl T.Cc (AA (AZ Ai rfl T.EJ CU (AA (AJ (Aa AR (pv 0) (pv 1) (fun _ _=>rfl)) rfl) AE)) AE)) eQ (fun s H C cl fp=>AX (i:=5) nd rfl (Or.inl rfl)) (fun s H C cl fp=>GJ)
   (fun s H C cl fp=>Ac (f9 T) hr rfl T.Nt AU (AA (pv 0) (AA (pv 1) (AA (pv 5) (AA (pv 2) (AA (pv 3) (AA (pv 4) AE))))))))),?_⟩
  have hs:sizeLine=16777216:=sizeLine_eq
  obtain⟨xs,sx,la,lw,n,el,ew,en,sx'⟩:=kn.JD.own mine
  obtain⟨⟨dx,hsx⟩,⟨as,hla,pas⟩,⟨ws,hlw,pws⟩,hsd⟩:=sx'
  have las:as.length=(D.side mine).acts.length:=pas.length
  have few:=hsd.few
  refine⟨_,rfl,_,rfl,l,_,_,_,rfl,rfl,SqL.of el,at_of ew en,sx,a.Side,dx,_,_,rfl,hsx,T.BA,T.BS,rfl,la,_,rfl,.inl (SqL.of hla),_,rfl,(by rw[List.length_map];omega),(by rw[List.length_map];omega),fun Dn hD=>?_⟩
  rw[List.length_map,Int.toNat_natCast]
  refine O8 (lo:=0) (n:=as.length) (fun i H'=>AK H H'/\H' Dn=some (.lst (nv ((Dm.Dq D mine (cOf mine c0 c1) num x y).take i)))) ⟨.new hD,by rw[AB];rfl⟩ ?_ ?_
  ·rintro i H' hi ⟨s3,e3⟩
   have hact:(D.side mine).acts[i]? =some (D.side mine).acts[i]:=List.getElem?_eq_getElem (by omega)
   generalize(D.side mine).acts[i]=act at hact
   refine⟨rfl,yes ?_⟩
   refine⟨_,rfl,_,rfl,_,rfl,_,rfl,_,rfl,_,rfl,l,t,mine,i,x,y,D,c0,c1,num,den,act,?_,kn.same s3,hact,hx,hy,fun H4 s4=>?_⟩
   ·rw[Int.zero_add]
   ·refine⟨_,s4 _ _ e3,?_,Cp (s3.trans s4) hD,?_⟩
    ·rw[Ar,List.length_take];unfold Dm.Dq;rw[List.length_map,hs];omega
    ·have hz':(Dm.Dq D mine (cOf mine c0 c1) num x y)[i]? =some (Dm.Dc D mine act (cOf mine c0 c1) num x y):=by unfold Dm.Dq;rw[List.getElem?_map,hact];rfl
     rw[AB,List.take_add_one,hz']
     unfold nv
     simp only[Option.toList_some,List.map_append,List.map_cons,List.map_nil]
  ·rintro H' ⟨s3,e3⟩
   rw[List.take_of_length_le (by unfold Dm.Dq;rw[List.length_map];omega)]at e3
   exact k Dn H' s3 hD e3
def lY (K:PySem.W.Frag):Sp:=fun vs H Q _=>∃(l:Addr) (mine:Bool) (ns:List Nat),vs=[.int (Aw mine),.ref l]/\SqL K H l (nv ns)/\ns≠[]/\Q (.int (Dm.Ym mine ns:Nat)) H
theorem lZ:AL ["who","worths"] ["who","worths"] (AG F6):=⟨rfl,rfl,rfl,by decide +kernel,rfl,by decide +kernel,by decide +kernel⟩
theorem fR (T:Tx K mg a):Fn P w K mg base CX0 1 a.FO ["who","worths"] (lY K):=by
 obtain⟨fd,F,hb⟩:=T.Pw
 refine F.fn hb lZ (fun vs H Q E h=>?_) (fun cdv A outer s H vs Q E hr h=>?_)
 ·obtain⟨l,mine,ns,rfl,_⟩:=h
  rfl
 ·obtain⟨l,mine,ns,rfl,hl,hne,k⟩:=h
  refine⟨_,AF (AO (Es (Ag DC (pv 0) AH (Am _)) (AZ (iz rfl) rfl T.Vs Pa (AA (pv 1) AE)) (AZ (i3 rfl) rfl T.f6 ay (AA (pv 1) AE)))),?_⟩
  have hpos:0<(ns.map fun n:Nat=>(n:Int)).length:=by
   rw[List.length_map]
   cases ns with
   |nil=>exact absurd rfl hne
   |cons x r=>simp
  refine BN (AQ rfl) Ax ?_
  have e0:decide (Aw mine=0)=mine:=by cases mine <;> rfl
  rw[e0]
  have back:∀m:Int,m∈(ns.map fun n:Nat=>(n:Int))->∃n:Nat,n∈ns/\m=n:=fun m hm=>by
   obtain⟨n,hn,e⟩:=List.mem_map.mp hm
   exact⟨n,hn,e.symm⟩
  have forth:∀n:Nat,n∈ns->(n:Int)∈(ns.map fun n:Nat=>(n:Int)):=fun n hn=>List.mem_map.mpr ⟨n,hn,rfl⟩
  cases mine with
  |true=>
   refine LB ⟨_,rfl,l,_,rfl,hl,hpos,fun m h1 h2=>?_⟩
   obtain⟨n,hn,rfl⟩:=back m h1
   have hw:Dm.IL true ns n:=⟨hn,fun y hy=>by
    rw[if_pos rfl]
    have:=h2 _ (forth y hy)
    omega⟩
   rw[Dm.Sq hw]
   exact k
  |false=>
   refine N6 ⟨_,rfl,l,_,rfl,hl,hpos,fun m h1 h2=>?_⟩
   obtain⟨n,hn,rfl⟩:=back m h1
   have hw:Dm.IL false ns n:=⟨hn,fun y hy=>by
    rw[if_neg Bool.false_ne_true]
    have:=h2 _ (forth y hy)
    omega⟩
   rw[Dm.Sq hw]
   exact k
def lg (a:Ad):Sp:=fun vs H Q _=>∃(l t:Addr) (mine:Bool) (x y:Nat) (D:Duel) (c0 c1:Nat) (num:Nat->Nat->Nat) (den:Nat),vs=[.ref l,.int (Aw mine),.int x,.int y,.ref t]/\Known a H l t D c0 c1 num den/\
 x<=D.first.hp/\y<=D.second.hp/\(D.side mine).acts≠[]/\∀H',AK H H'->Q (.int (Dm.Ge D mine (cOf mine c0 c1) num den x y:Nat)) H'
theorem gR:AL ["sides","who","a","b","behind"] ["sides","who","a","b","behind"] (AG HG):=⟨rfl,rfl,rfl,by decide +kernel,rfl,by decide +kernel,by decide +kernel⟩
theorem lJ (T:Tx K mg a):Fn P w K mg base CX0 4 a.Gj ["sides","who","a","b","behind"] (lg a):=by
 obtain⟨fd,F,hb⟩:=T.RJ
 refine F.fn hb gR (fun vs H Q E h=>?_) (fun cdv A outer s H vs Q E hr h=>?_)
 ·obtain⟨l,t,mine,x,y,D,c0,c1,num,den,rfl,_⟩:=h
  rfl
 ·obtain⟨l,t,mine,x,y,D,c0,c1,num,den,rfl,kn,hx,hy,hne,k⟩:=h
  have nd:=gR.nd
  refine⟨_,AD (BR (Ag DC (pv 2) AH (Am _)) (AF (AO AH)) Al)
   (AD (BR (Ag DC (pv 3) AH (Am _)) (AF (AO (AS BK (AJ (Aa AR (pv 0) (pv 1) (fun _ _=>rfl)) rfl) (AJ (pv 4) rfl)))) Al)
   (AF (AO (Ac (fR T) hr rfl T.JE AU (AA (pv 1) (AA (Ac (Z6 T) hr rfl T.Ll AU (AA (pv 0) (AA (pv 1) (AA (pv 2) (AA (pv 3) (AA (pv 4) AE)))))) AE)))))),?_⟩
  unfold Dm.Ge at k
  refine BN (AQ rfl) Ax ?_
  refine BY (fun h0=>?_) (fun h0=>?_)
  ·have h0:(x:Int)=0:=of_decide_eq_true h0
   rw[if_pos (show x=0 by omega)]at k
   exact k H (.refl H)
  ·have h0:¬(x:Int)=0:=fun z=>h0 (decide_eq_true z)
   rw[if_neg (show ¬x=0 by omega)]at k
   refine BN (AQ rfl) Ax ?_
   refine BY (fun h1=>?_) (fun h1=>?_)
   ·have h1:(y:Int)=0:=of_decide_eq_true h1
    rw[if_pos (show y=0 by omega)]at k
    obtain⟨xs,sx,la,lw,n,el,ew,en,sx'⟩:=kn.JD.own mine
    obtain⟨dx,hsx⟩:=sx'.ins
    obtain⟨lt,rows,⟨dt,hti⟩,_⟩:=kn.table
    refine⟨_,rfl,_,rfl,l,_,_,_,rfl,rfl,SqL.of el,at_of ew en,sx,a.Side,dx,_,_,rfl,hsx,T.BA,T.Bz,rfl,_,rfl,t,a.Table,dt,_,_,rfl,hti,T.E9,T.DB,rfl,_,_,rfl,rfl,(Ng sx'.sd.bd3).cw kn.bd (by decide),?_⟩
    have:=k H (.refl H)
    rw[Int.natCast_mul]at this
    exact this
   ·have h1:¬(y:Int)=0:=fun z=>h1 (decide_eq_true z)
    rw[if_neg (show ¬y=0 by omega)]at k
    refine⟨_,rfl,_,rfl,_,rfl,_,rfl,_,rfl,_,rfl,l,t,mine,x,y,D,c0,c1,num,den,rfl,kn,hx,hy,fun q H2 s2 n2 e2=>?_⟩
    refine⟨q,mine,_,rfl,SqL.of e2,fun z=>hne ?_,k H2 s2⟩
    unfold Dm.Dq at z
    exact List.map_eq_nil_iff.mp z
end
structure Pc (H:Hp)(la:Addr)(m2:Nat)(num:Nat->Nat->Nat)(i:Nat)(rows:List Addr):Prop where
 lst:H la=some (.lst (rows.map V.ref))
 len:rows.length=i
 at_:∀j r,rows[j]? =some r->r≠la/\H r=some (.lst (nv ((List.range (m2+1)).map fun b=>num j b)))
theorem Pc.more (R:Pc H la m2 num i rows)(s:AK H H')(hD:D≠la)(e:H' D=some (.lst (nv ((List.range (m2+1)).map fun b=>num i b)))):
  Pc (upd H' la (.lst (rows.map V.ref++[V.ref D]))) la m2 num (i+1) (rows++[D]):=by
 refine⟨by rw[AB,List.map_append];rfl,by rw[List.length_append,R.len];rfl,fun j r hj=>?_⟩
 by_cases h:j<rows.length
 ·rw[List.getElem?_append_left h]at hj
  obtain⟨n,q⟩:=R.at_ j r hj
  exact⟨n,by rw[AI n];exact s _ _ q⟩
 ·rw[List.getElem?_append_right (by omega)]at hj
  have hj0:j - rows.length=0:=by
   have:=(List.getElem?_eq_some_iff.mp hj).1
   simp at this
   omega
  rw[hj0]at hj
  have er:D=r:=Option.some.inj hj
  subst er
  have ej:j=i:=by have:=R.len;omega
  subst ej
  exact⟨hD,by rw[AI hD];exact e⟩
theorem take_range (f:Nat->Nat)(h:i<m):((List.range m).map fun b=>f b).take (i+1)=((List.range m).map fun b=>f b).take i++[f i]:=by
 rw[List.take_add_one,List.getElem?_map,List.getElem?_range h];rfl
section
variable {P:Program}{w:World}{K:PySem.W.Frag}{mg:Str->Option Value}{base:Heap}{a:Ad}
def eC (a:Ad):Sp:=fun vs H Q _=>∃(l:Addr) (D:Duel) (c0 c1:Nat),vs=[.ref l]/\Gd a H l D c0 c1/\D.first.hp<=1000/\D.second.hp<=1000/\∀r H',AK H H'->TableAt a H' r D.first.hp D.second.hp Dm.M4 1->Q (.ref r) H'
theorem YZ:AL ["sides","above","a","b"] ["sides"] (AG FH):=⟨rfl,rfl,rfl,by decide +kernel,rfl,by decide +kernel,by decide +kernel⟩
theorem bB:GI ["sides","above","a","b"] (AG FH) (JN [(".0",.local),("b",.local),("a",.free)]) [("b",3)]:=⟨rfl,by decide +kernel,by decide +kernel,by decide +kernel,by decide +kernel⟩
theorem eE (T:Tx K mg a):Fn P w K mg base CX0 3 a.IF ["sides"] (eC a):=by
 obtain⟨fd,F,hb⟩:=T.UD
 refine F.fn hb YZ (fun vs H Q E h=>?_) (fun cdv A outer s H vs Q E hr h=>?_)
 ·obtain⟨l,D,c0,c1,rfl,_⟩:=h
  rfl
 ·obtain⟨l,D,c0,c1,rfl,hS,hp1,hp2,k⟩:=h
  have nd:=YZ.nd
  refine⟨_,AD (AN (i:=1) nd rfl (Or.inl rfl) (An AE))
   (AD (BD PassesOwn.never rfl (Bo rfl T.Cc (AA (AS Ba (AJ (Aa AR (pv 0) AH (fun _ _=>rfl)) rfl) AH) AE)) (AX (i:=2) nd rfl (Or.inr rfl))
    (AF (Az (DD PySem.F.plainAttrs_list PySem.F.slot_list_append PySem.F.type_list_append BM (pv 1) (AA
     (SF rfl nd (Bo rfl T.Cc (AA (AS Ba (AJ (Aa AR (pv 0) AH (fun _ _=>rfl)) rfl) AH) AE)) bB (fun s H C cl fp=>AX (i:=3) nd rfl (Or.inl rfl)) (fun s H C cl fp=>GJ)
      (fun s H C cl fp=>Es (W2 (Ag Ih (pv 2) AH (Am _)) (TX (Ag DC (pv 3) AH (Am _)))).pt AH AH)) AE)))))
   (AF (AO (Dv T.Ya (K2 T) hr rfl T.Yb AU (AA (pv 1) (AA AH AE)))))),?_⟩
  have hs:sizeLine=16777216:=sizeLine_eq
  refine⟨(by show 0<=sizeLine;decide),fun la hla=>?_⟩
  obtain⟨x0,la0,lw0,x1,la1,lw1,el,S0,S1⟩:=id hS
  obtain⟨d0,hs0⟩:=S0.ins
  obtain⟨d1,hs1⟩:=S1.ins
  have s0:AK H (upd H la (.lst [])):=.new hla
  refine⟨_,rfl,l,_,_,_,rfl,rfl,SqL.of (s0 _ _ el),BO (j:=0) rfl,x0,a.Side,d0,_,_,rfl,s0 _ _ hs0,T.BA,T.CC,rfl,_,_,rfl,rfl,_,rfl,(by omega),(by omega),?_⟩
  have en:((D.first.hp:Int)+1).toNat=D.first.hp+1:=by omega
  rw[en]
  refine B6 (n:=D.first.hp+1) (fun i σ H'=>∃(v2 v3:Option V) (rows:List Addr),σ=[some (.ref l),some (.ref la),v2,v3]/\AK H H'/\Pc H' la D.second.hp Dm.M4 i rows) ⟨none,none,[],rfl,s0,AB,rfl,fun j r h=>by simp at h⟩ ?_ ?_
  ·rintro i σ H' hi ⟨v2,v3,rows,rfl,s1,R⟩
   refine⟨_,rfl,.inl ⟨rfl,_,SqL.of R.lst⟩,?_⟩
   refine⟨_,rfl,l,_,_,_,rfl,rfl,SqL.of (s1 _ _ el),BO (j:=1) rfl,x1,a.Side,d1,_,_,rfl,s1 _ _ hs1,T.BA,T.CC,rfl,_,_,rfl,rfl,_,rfl,(by omega),(by omega),fun Dn hD=>?_⟩
   have en2:((D.second.hp:Int)+1).toNat=D.second.hp+1:=by omega
   rw[en2]
   refine O8 (lo:=0) (n:=D.second.hp+1) (fun b H2=>AK H' H2/\H2 Dn=some (.lst (nv (((List.range (D.second.hp+1)).map fun b=>Dm.M4 i b).take b)))) ⟨.new hD,by rw[AB];rfl⟩ ?_ ?_
   ·rintro b H2 hb2 ⟨s2,e2⟩
    refine⟨rfl,yes ?_⟩
    have fin:∀z:Int,z=((Dm.M4 i b:Nat):Int)->∃acc,H2 Dn=some (HO.lst acc)/\acc.length<sizeLine/\AK H' (upd H2 Dn (.lst (acc++[V.int z])))/\(upd H2 Dn (.lst (acc++[V.int z]))) Dn=some (.lst (nv (((List.range (D.second.hp+1)).map fun b=>Dm.M4 i b).take (b+1)))):=fun z hz=>by
     refine⟨_,e2,?_,Cp s2 hD,?_⟩
     ·rw[Ar,List.length_take,List.length_map,List.length_range,hs];omega
     ·rw[AB,take_range (fun b=>Dm.M4 i b) hb2,hz]
      unfold nv
      simp only[List.map_append,List.map_cons,List.map_nil]
    have g2:Gives (Ae 2) ([some (.ref l),some (.ref la),some (.int (0+(i:Int))),some (.int (0+(b:Int)))]:L2.St) H2 (.int (0+(i:Int))):=AQ rfl
    have g3:Gives (Ae 3) ([some (.ref l),some (.ref la),some (.int (0+(i:Int))),some (.int (0+(b:Int)))]:L2.St) H2 (.int (0+(b:Int))):=AQ rfl
    refine CZ g2 Ax ?_
    refine BY (fun h0=>?_) (fun h0=>?_)
    ·have h0:(0:Int)<0+(i:Int):=of_decide_eq_true h0
     refine BN g3 Ax ?_
     refine BY (fun h1=>?_) (fun h1=>?_)
     ·have h1:(0:Int)+(b:Int)=0:=of_decide_eq_true h1
      exact fin 1 (by unfold Dm.M4;rw[if_pos ⟨by omega,by omega⟩];rfl)
     ·have h1:¬(0:Int)+(b:Int)=0:=fun z=>h1 (decide_eq_true z)
      exact fin 0 (by unfold Dm.M4;rw[if_neg (by omega)];rfl)
    ·have h0:¬(0:Int)<0+(i:Int):=fun z=>h0 (decide_eq_true z)
     exact N6 (fin 0 (by unfold Dm.M4;rw[if_neg (by omega)];rfl))
   ·rintro H2 ⟨s2,e2⟩
    rw[List.take_of_length_le (by rw[List.length_map,List.length_range];exact Nat.le_refl _)]at e2
    have nD:Dn≠la:=fun z=>by rw[z,R.lst]at hD;cases hD
    refine⟨la,_,_,rfl,rfl,s2 _ _ R.lst,(by rw[List.length_map,R.len];omega),?_⟩
    exact⟨_,_,rows++[Dn],rfl,Cp (s1.trans s2) hla,R.more s2 nD e2⟩
  ·rintro σ H' ⟨v2,v3,rows,rfl,s1,R⟩
   refine⟨_,rfl,?_⟩
   intro x dx nx ndx ne
   refine⟨x,dx,_,_,rfl,AB,fun H2 hx2 b2=>⟨rfl,?_⟩⟩
   have s2:AK H' H2:=.init nx ndx b2
   exact k x H2 (s1.trans s2) ⟨la,rows,⟨dx,hx2⟩,s2 _ _ R.lst,R.len,fun j r hj=>s2 _ _ (R.at_ j r hj).2⟩
def lG (a:Ad):Sp:=fun vs H Q _=>∃(l t:Addr) (mine:Bool) (D:Duel) (c0 c1:Nat) (num:Nat->Nat->Nat) (den:Nat),vs=[.ref l,.int (Aw mine),.ref t]/\Known a H l t D c0 c1 num den/\D.first.hp<=1000/\D.second.hp<=1000/\
 (D.side mine).acts≠[]/\∀r H',AK H H'->TableAt a H' r D.first.hp D.second.hp (Dm.Ge D mine (cOf mine c0 c1) num den) (cOf mine c0 c1*den)->Q (.ref r) H'
theorem gF:AL ["sides","who","behind","above","a","b"] ["sides","who","behind"] (AG D3):=⟨rfl,rfl,rfl,by decide +kernel,rfl,by decide +kernel,by decide +kernel⟩
theorem jP:GI ["sides","who","behind","above","a","b"] (AG D3) (JN [(".0",.local),("b",.local),("odds_before",.globalImplicit),("a",.free),("behind",.free),("sides",.free),("who",.free)]) [("b",5)]:=⟨rfl,by decide +kernel,by decide +kernel,by decide +kernel,by decide +kernel⟩
theorem lH (T:Tx K mg a):Fn P w K mg base CX0 5 a.FI ["sides","who","behind"] (lG a):=by
 obtain⟨fd,F,hb⟩:=T.Pd
 refine F.fn hb gF (fun vs H Q E h=>?_) (fun cdv A outer s H vs Q E hr h=>?_)
 ·obtain⟨l,t,mine,D,c0,c1,num,den,rfl,_⟩:=h
  rfl
 ·obtain⟨l,t,mine,D,c0,c1,num,den,rfl,kn,hp1,hp2,hne,k⟩:=h
  have nd:=gF.nd
  refine⟨_,AD (AN (i:=3) nd rfl (Or.inl rfl) (An AE))
   (AD (BD PassesOwn.never rfl (Bo rfl T.Cc (AA (AS Ba (AJ (Aa AR (pv 0) AH (fun _ _=>rfl)) rfl) AH) AE)) (AX (i:=4) nd rfl (Or.inr rfl))
    (AF (Az (DD PySem.F.plainAttrs_list PySem.F.slot_list_append PySem.F.type_list_append BM (pv 3) (AA
     (SF rfl nd (Bo rfl T.Cc (AA (AS Ba (AJ (Aa AR (pv 0) AH (fun _ _=>rfl)) rfl) AH) AE)) jP (fun s H C cl fp=>AX (i:=5) nd rfl (Or.inl rfl)) (fun s H C cl fp=>GJ)
      (fun s H C cl fp=>Ac (lJ T) hr rfl T.RF AU (AA (pv 0) (AA (pv 1) (AA (pv 4) (AA (pv 5) (AA (pv 2) AE))))))) AE)))))
   (AF (AO (Dv T.Ya (K2 T) hr rfl T.Yb AU (AA (pv 3) (AA (AS BK (AJ (Aa AR (pv 0) (pv 1) (fun _ _=>rfl)) rfl) (AJ (pv 2) rfl)) AE)))))),?_⟩
  have hs:sizeLine=16777216:=sizeLine_eq
  refine⟨(by show 0<=sizeLine;decide),fun la hla=>?_⟩
  obtain⟨x0,la0,lw0,x1,la1,lw1,el,S0,S1⟩:=kn.JD
  obtain⟨d0,hs0⟩:=S0.ins
  obtain⟨d1,hs1⟩:=S1.ins
  have s0:AK H (upd H la (.lst [])):=.new hla
  generalize hnum':Dm.Ge D mine (cOf mine c0 c1) num den=num'
  refine⟨_,rfl,l,_,_,_,rfl,rfl,SqL.of (s0 _ _ el),BO (j:=0) rfl,x0,a.Side,d0,_,_,rfl,s0 _ _ hs0,T.BA,T.CC,rfl,_,_,rfl,rfl,_,rfl,(by omega),(by omega),?_⟩
  have en:((D.first.hp:Int)+1).toNat=D.first.hp+1:=by omega
  rw[en]
  refine B6 (n:=D.first.hp+1) (fun i σ H'=>∃(v2 v3:Option V) (rows:List Addr),σ=[some (.ref l),some (.int (Aw mine)),some (.ref t),some (.ref la),v2,v3]/\AK H H'/\Pc H' la D.second.hp num' i rows) ⟨none,none,[],rfl,s0,AB,rfl,fun j r h=>by simp at h⟩ ?_ ?_
  ·rintro i σ H' hi ⟨v2,v3,rows,rfl,s1,R⟩
   refine⟨_,rfl,.inl ⟨rfl,_,SqL.of R.lst⟩,?_⟩
   refine⟨_,rfl,l,_,_,_,rfl,rfl,SqL.of (s1 _ _ el),BO (j:=1) rfl,x1,a.Side,d1,_,_,rfl,s1 _ _ hs1,T.BA,T.CC,rfl,_,_,rfl,rfl,_,rfl,(by omega),(by omega),fun Dn hD=>?_⟩
   have en2:((D.second.hp:Int)+1).toNat=D.second.hp+1:=by omega
   rw[en2]
   refine O8 (lo:=0) (n:=D.second.hp+1) (fun b H2=>AK H' H2/\H2 Dn=some (.lst (nv (((List.range (D.second.hp+1)).map fun b=>num' i b).take b)))) ⟨.new hD,by rw[AB];rfl⟩ ?_ ?_
   ·rintro b H2 hb2 ⟨s2,e2⟩
    refine⟨rfl,yes ?_⟩
    refine⟨_,rfl,_,rfl,_,rfl,_,rfl,_,rfl,l,t,mine,i,b,D,c0,c1,num,den,?_,kn.same (s1.trans s2),by omega,by omega,hne,fun H3 s3=>?_⟩
    ·rw[Int.zero_add,Int.zero_add]
    ·refine⟨_,s3 _ _ e2,?_,Cp (s2.trans s3) hD,?_⟩
     ·rw[Ar,List.length_take,List.length_map,List.length_range,hs];omega
     ·rw[AB,take_range (fun b=>num' i b) hb2,<-hnum']
      unfold nv
      simp only[List.map_append,List.map_cons,List.map_nil]
   ·rintro H2 ⟨s2,e2⟩
    rw[List.take_of_length_le (by rw[List.length_map,List.length_range];exact Nat.le_refl _)]at e2
    have nD:Dn≠la:=fun z=>by rw[z,R.lst]at hD;cases hD
    refine⟨la,_,_,rfl,rfl,s2 _ _ R.lst,(by rw[List.length_map,R.len];omega),?_⟩
    exact⟨_,_,rows++[Dn],rfl,Cp (s1.trans s2) hla,R.more s2 nD e2⟩
  ·rintro σ H' ⟨v2,v3,rows,rfl,s1,R⟩
   obtain⟨xs,sx,lax,lwx,n,elx,ew,enx,sx'⟩:=(kn.same s1).JD.own mine
   obtain⟨dx,hsx⟩:=sx'.ins
   obtain⟨lt,rws,⟨dt,hti⟩,_⟩:=(kn.same s1).table
   refine⟨_,rfl,_,rfl,_,rfl,l,_,_,_,rfl,rfl,SqL.of elx,at_of ew enx,sx,a.Side,dx,_,_,rfl,hsx,T.BA,T.Bz,rfl,_,rfl,t,a.Table,dt,_,_,rfl,hti,T.E9,T.DB,rfl,_,_,rfl,rfl,(Ng sx'.sd.bd3).cw kn.bd (by decide),?_⟩
   intro x dx nx ndx ne
   refine⟨x,dx,_,_,rfl,AB,fun H2 hx2 b2=>⟨rfl,?_⟩⟩
   have s2:AK H' H2:=.init nx ndx b2
   refine k x H2 (s1.trans s2) ⟨la,rows,⟨dx,?_⟩,s2 _ _ R.lst,R.len,fun j r hj=>by rw[hnum'];exact s2 _ _ (R.at_ j r hj).2⟩
   rw[hx2,Int.natCast_mul]
end
def NT (H H':Hp):Prop:=∀b o,(∀kvs,o≠.dT kvs)->H b=some o->H' b=some o
theorem AK.nt (s:AK H H'):NT H H':=fun b o _ e=>s b o e
theorem NT.lst (s:NT H H')(e:H b=some (.lst xs)):H' b=some (.lst xs):=s b _ (fun _ z=>by cases z) e
theorem Bt.nt (h:Bt H x C l)(s:NT H H'):Bt H' x C l:=let⟨d,e⟩:=h;⟨d,s _ _ (fun _ z=>by cases z) e⟩
theorem CF.nt (h:CF a H x act)(s:NT H H'):CF a H' x act:=let⟨c,i,e⟩:=h;⟨c,Bt.nt i s,s.lst e⟩
theorem A3.nt {a:Ad}{H H':Hp}{x la lw:Addr}{sd:Side}{c:Nat}(h:A3 a H x la lw sd c)(s:NT H H'):A3 a H' x la lw sd c:=
 ⟨Bt.nt h.ins s,let⟨as,e,p⟩:=h.acts;⟨as,s.lst e,p.Jn fun _ _ _ _ q=>CF.nt q s⟩,let⟨as,e,p⟩:=h.ws;⟨as,s.lst e,p.Jn fun _ _ _ _ q=>s.lst q⟩,h.sd⟩
theorem TableAt.nt (h:TableAt a H t m1 m2 num den)(s:NT H H'):TableAt a H' t m1 m2 num den:=
 let⟨la,rows,i,e,n,r⟩:=h
 ⟨la,rows,Bt.nt i s,s.lst e,n,fun j q hq=>s.lst (r j q hq)⟩
abbrev Md:=List Key
def Hd (n:Nat)(mine:Bool):Md:=[Sum.inl (n:Int),Sum.inl (Aw mine)]
def Ent (a:Ad)(H:Hp)(D:Duel)(kvs:List (Md×V)):Prop:=∀k v,C3 kvs k=some v->∃n mine t num den,n<=8/\k=Hd n mine/\v=V.ref t/\TableAt a H t D.first.hp D.second.hp num den/\Dm.Rep D n mine num den
structure Cy (a:Ad)(H:Hp)(f l td x0 la0 lw0 x1 la1 lw1:Addr)(D:Duel)(c0 c1:Nat)(kvs:List (Md×V)):Prop where
 ins:Bt H f a.BB [("sides",.ref l),("tables",.ref td)]
 lst:H l=some (.lst [.ref x0,.ref x1])
 s0:A3 a H x0 la0 lw0 D.first c0
 s1:A3 a H x1 la1 lw1 D.second c1
 nx:x0≠x1
 nl:la0≠la1
 n01:la0≠lw1
 n10:la1≠lw0
 td:H td=some (.dT kvs)
 nd:(kvs.map (·.1)).Nodup
 ent:Ent a H D kvs
 hp1:D.first.hp<=15
 hp2:D.second.hp<=15
section
variable {a:Ad}{H H':Hp}{f l td x0 la0 lw0 x1 la1 lw1:Addr}{D:Duel}{c0 c1:Nat}{kvs:List (Md×V)}
theorem Ent.nt (h:Ent a H D kvs)(s:NT H H'):Ent a H' D kvs:=fun k v e=>by
 obtain⟨n,m,t,num,den,h1,h2,h3,h4,h5⟩:=h k v e
 exact⟨n,m,t,num,den,h1,h2,h3,TableAt.nt h4 s,h5⟩
theorem Cy.same (F:Cy a H f l td x0 la0 lw0 x1 la1 lw1 D c0 c1 kvs)(s:AK H H'):Cy a H' f l td x0 la0 lw0 x1 la1 lw1 D c0 c1 kvs:=
 ⟨F.ins.same s,s _ _ F.lst,F.s0.same s,F.s1.same s,F.nx,F.nl,F.n01,F.n10,s _ _ F.td,F.nd,F.ent.nt (AK.nt s),F.hp1,F.hp2⟩
theorem Cy.JD (F:Cy a H f l td x0 la0 lw0 x1 la1 lw1 D c0 c1 kvs):Gd a H l D c0 c1:=⟨x0,la0,lw0,x1,la1,lw1,F.lst,F.s0,F.s1⟩
theorem jn (h:H td=some (.dT kvs)):NT H (upd H td (.dT kvs')):=fun b o n e=>by
 rw[AI (fun z=>by rw[z,h]at e;exact n kvs (Option.some.inj e).symm)]
 exact e
theorem Cy.put (F:Cy a H f l td x0 la0 lw0 x1 la1 lw1 D c0 c1 kvs)(hn:n<=8)(hno:C3 kvs (Hd n mine)=none)(ht:TableAt a H t D.first.hp D.second.hp num den)(R:Dm.Rep D n mine num den):
  Cy a (upd H td (.dT (putK kvs (Hd n mine) (.ref t)))) f l td x0 la0 lw0 x1 la1 lw1 D c0 c1 (putK kvs (Hd n mine) (.ref t)):=by
 have s:NT H (upd H td (.dT (putK kvs (Hd n mine) (.ref t)))):=jn F.td
 refine⟨Bt.nt F.ins s,s.lst F.lst,A3.nt F.s0 s,A3.nt F.s1 s,F.nx,F.nl,F.n01,F.n10,AB,dh _ F.nd hno,fun k v e=>?_,F.hp1,F.hp2⟩
 rw[VW]at e
 by_cases h:k=Hd n mine
 ·rw[if_pos h]at e
  exact⟨n,mine,t,num,den,hn,h,(Option.some.inj e).symm,TableAt.nt ht s,R⟩
 ·rw[if_neg h]at e
  exact F.ent.nt s k v e
theorem Sy [DecidableEq α]:∀(l L:List α),l.Nodup->(∀x∈l,x∈L)->l.length<=L.length
 |[],_,_,_=>Nat.zero_le _
 |x::l,L,hn,hs=>by
  obtain⟨h1,h2⟩:=List.nodup_cons.mp hn
  have hx:=hs x List.mem_cons_self
  have ih:=Sy l (L.erase x) h2 fun y hy=>(List.mem_erase_of_ne (a:=y) (b:=x) (fun z=>h1 (by rw[<-z];exact hy))).mpr (hs y (List.mem_cons_of_mem _ hy))
  rw[List.length_erase_of_mem hx]at ih
  have:0<L.length:=List.length_pos_of_mem hx
  rw[List.length_cons]
  omega
theorem Cy.few (F:Cy a H f l td x0 la0 lw0 x1 la1 lw1 D c0 c1 kvs):kvs.length<=18:=by
 have h:=Sy (kvs.map (·.1)) ((List.range 9).flatMap fun n=>[Hd n true,Hd n false]) F.nd fun k hk=>?_
 ·rw[List.length_map]at h
  exact h
 ·cases e:C3 kvs k with
  |none=>exact absurd hk (Vb e)
  |some v=>
   obtain⟨n,mine,t,num,den,hn,hke,_⟩:=F.ent k v e
   rw[hke]
   refine List.mem_flatMap.mpr ⟨n,List.mem_range.mpr (by omega),?_⟩
   cases mine <;> simp
theorem PK (n:Nat)(mine:Bool):(Hd n mine).map kV=[V.int (n:Int),V.int (Aw mine)]:=rfl
end
section
variable {P:Program}{w:World}{K:PySem.W.Frag}{mg:Str->Option Value}{base:Heap}{a:Ad}
def mM (a:Ad):Sp:=fun vs H Q _=>∃f l td x0 la0 lw0 x1 la1 lw1 D c0 c1 kvs,∃(n:Nat) (mine:Bool),vs=[.ref f,.int n,.int (Aw mine)]/\Cy a H f l td x0 la0 lw0 x1 la1 lw1 D c0 c1 kvs/\D.first.acts≠[]/\D.second.acts≠[]/\n<=8/\
 (∀m,n=m+1->(C3 kvs (Hd m (!mine))).isSome=true)/\∀t num den H',AK H H'->TableAt a H' t D.first.hp D.second.hp num den->Dm.Rep D n mine num den->Q (.ref t) H'
theorem mO:AL ["self","turns","who"] ["self","turns","who"] (AG ED):=⟨rfl,rfl,rfl,by decide +kernel,rfl,by decide +kernel,by decide +kernel⟩
theorem OT (mine:Bool):1 - Aw mine=Aw (!mine):=by cases mine <;> rfl
theorem kl (T:Tx K mg a):Fn P w K mg base CX0 6 a.DP ["self","turns","who"] (mM a):=by
 obtain⟨fd,F,hb⟩:=T.MR
 refine F.fn hb mO (fun vs H Q E h=>?_) (fun cdv A outer s H vs Q E hr h=>?_)
 ·obtain⟨f,l,td,x0,la0,lw0,x1,la1,lw1,D,c0,c1,kvs,n,mine,rfl,_⟩:=h
  rfl
 ·obtain⟨f,l,td,x0,la0,lw0,x1,la1,lw1,D,c0,c1,kvs,n,mine,rfl,Ft,hne1,hne2,hn,hm,k⟩:=h
  refine⟨_,AD (BR (Ag DC (pv 1) AH (Am _)) (AF (AO (Ac (eE T) hr rfl T.UW AU (AA (AJ (pv 0) rfl) AE)))) Al)
   (AF (AO (Ac (lH T) hr rfl T.QC AU (AA (AJ (pv 0) rfl) (AA (pv 2) (AA (YL (PB hr) (AJ (pv 0) rfl) (LK (AA (AS Bm (pv 1) AH) (AA (AS Bm AH (pv 2)) AE))) (fun _ _=>rfl)) AE)))))),?_⟩
  obtain⟨df,hf⟩:=Ft.ins
  have b1:=Ft.hp1
  have b2:=Ft.hp2
  refine BN (AQ rfl) Ax ?_
  refine BY (fun h0=>?_) (fun h0=>?_)
  ·have h0:(n:Int)=0:=of_decide_eq_true h0
   have h0:n=0:=by omega
   subst h0
   refine⟨_,rfl,f,a.BB,df,_,_,rfl,hf,T.Ap,T.Aq,rfl,l,D,c0,c1,rfl,Ft.JD,by omega,by omega,fun r H' s' ht=>?_⟩
   exact k r _ _ H' s' ht (Dm.Rep.zero D mine)
  ·have h0:¬(n:Int)=0:=fun z=>h0 (decide_eq_true z)
   obtain⟨m,rfl⟩:∃m,n=m+1:=⟨n - 1,by omega⟩
   have hv:=hm m rfl
   obtain⟨v,hv⟩:=Option.isSome_iff_exists.mp hv
   obtain⟨n',mine',t,num,den,hn',hk,rfl,ht,R⟩:=Ft.ent _ _ hv
   have e12:n'=m/\mine'= !mine:=by
    unfold Hd at hk
    injection hk with h1 h2
    injection h2 with h2 _
    have h1:=Sum.inl.inj h1
    have h2:=Sum.inl.inj h2
    refine⟨by omega,?_⟩
    cases mine <;> cases mine' <;> first|rfl|exact absurd h2 (by decide)
   obtain⟨rfl,rfl⟩:=e12
   refine⟨_,rfl,f,a.BB,df,_,_,rfl,hf,T.Ap,T.Aq,rfl,_,rfl,_,rfl,f,a.BB,df,_,_,rfl,hf,T.Ap,T.B7,rfl,_,rfl,_,_,rfl,rfl,_,rfl,_,_,rfl,rfl,(by show 2<=sizeLine;decide),fun q hq=>?_⟩
   have s1:AK H (upd H q (.tup [V.int (((n'+1:Nat):Int) - 1),V.int (1 - Aw mine)])):=.new hq
   have ek:(Hd n' (!mine)).map kV=[V.int (((n'+1:Nat):Int) - 1),V.int (1 - Aw mine)]:=by
    rw[PK,OT]
    congr 2
    omega
   refine⟨td,.ref t,rfl,?_,?_⟩
   ·rw[<-hv]
    exact Mu.t (s1 _ _ Ft.td) (by rw[ek];exact AB)
   ·have hside:(D.side mine).acts≠[]:=by
     cases mine with
     |true=>exact hne1
     |false=>exact hne2
    have hsd:Dm.Ff (D.side mine) (cOf mine c0 c1):=by
     cases mine with
     |true=>exact Ft.s0.sd
     |false=>exact Ft.s1.sd
    refine⟨l,t,mine,D,c0,c1,num,den,rfl,⟨Ft.JD.same s1,ht.same s1,R.le,(Ng R.bd).more (by omega)⟩,by omega,by omega,hside,fun r H' s' ht'=>?_⟩
    exact k r _ _ H' (s1.trans s') ht' (R.step hsd (Dm.br hside))
end
def mj (n:Nat)(mine:Bool)(m:Nat):Bool:=if(n - m) % 2=0 then mine else !mine
theorem jG (n:Nat)(mine:Bool):mj n mine n=mine:=by unfold mj;rw[Nat.sub_self];rfl
theorem di (mine:Bool)(h:m+1<=n):(!mj n mine (m+1))=mj n mine m:=by
 unfold mj
 by_cases e:(n - (m+1)) % 2=0
 ·rw[if_pos e,if_neg (by omega)]
 ·rw[if_neg e,if_pos (by omega),Bool.not_not]
section
variable {P:Program}{w:World}{K:PySem.W.Frag}{mg:Str->Option Value}{base:Heap}{a:Ad}
def jH (a:Ad):Sp:=fun vs H Q _=>∃f l td x0 la0 lw0 x1 la1 lw1 D c0 c1 kvs,∃(n:Nat) (mine:Bool),vs=[.ref f,.int n,.int (Aw mine)]/\Cy a H f l td x0 la0 lw0 x1 la1 lw1 D c0 c1 kvs/\D.first.acts≠[]/\D.second.acts≠[]/\n<=8/\
 ∀t num den kvs' H',Cy a H' f l td x0 la0 lw0 x1 la1 lw1 D c0 c1 kvs'->But td H H'->TableAt a H' t D.first.hp D.second.hp num den->Dm.Rep D n mine num den->Q (.ref t) H'
theorem ao:AL ["self","turns","who","left","whose"] ["self","turns","who"] (AG G9):=⟨rfl,rfl,rfl,by decide +kernel,rfl,by decide +kernel,by decide +kernel⟩
theorem Wm (T:Tx K mg a):Fn P w K mg base CX0 7 a.GW ["self","turns","who"] (jH a):=by
 obtain⟨fd,F,hb⟩:=T.Q4
 refine F.fn hb ao (fun vs H Q E h=>?_) (fun cdv A outer s H vs Q E hr h=>?_)
 ·obtain⟨f,l,td,x0,la0,lw0,x1,la1,lw1,D,c0,c1,kvs,n,mine,rfl,_⟩:=h
  rfl
 ·obtain⟨f,l,td,x0,la0,lw0,x1,la1,lw1,D,c0,c1,kvs,n,mine,rfl,Ft,hne1,hne2,hn,k⟩:=h
  have nd:=ao.nd
  refine⟨_,AD (BD PassesOwn.never rfl (Bo rfl T.Cc (AA (AS Ba (pv 1) AH) AE)) (AX (i:=3) nd rfl (Or.inl rfl))
    (AD (AN (i:=4) nd rfl (Or.inl rfl) (Es (Ag DC (AS LI (AS Bm (pv 1) (pv 3)) AH) AH (Am _)) (pv 2) (AS Bm AH (pv 2))))
    (AF (BR (aQ (ZL (PB hr) (LK (AA (pv 3) (AA (pv 4) AE))) (AJ (pv 0) rfl)))
     (AF (YM (PB hr) (AJ (pv 0) rfl) (LK (AA (pv 3) (AA (pv 4) AE))) (B4 (pv 0) T.Ap T.Lz (kl T) hr AU (AA (pv 3) (AA (pv 4) AE))) rfl)) Al))))
   (AF (AO (YL (PB hr) (AJ (pv 0) rfl) (LK (AA (pv 1) (AA (pv 2) AE))) (fun _ _=>rfl)))),?_⟩
  have hs:sizeLine=16777216:=sizeLine_eq
  refine⟨_,rfl,_,_,rfl,rfl,_,rfl,(by omega),(by omega),?_⟩
  have en:((n:Int)+1).toNat=n+1:=by omega
  rw[en]
  refine B6 (n:=n+1) (fun i σ H'=>∃(v3 v4:Option V) (kvs':List (Md×V)),σ=[some (.ref f),some (.int n),some (.int (Aw mine)),v3,v4]/\But td H H'/\Cy a H' f l td x0 la0 lw0 x1 la1 lw1 D c0 c1 kvs'/\∀m,m<i->(C3 kvs' (Hd m (mj n mine m))).isSome=true)
   ⟨none,none,kvs,rfl,(AK.refl H).but,Ft,fun m h=>absurd h (by omega)⟩ ?_ ?_
  ·rintro i σ H' hi ⟨v3,v4,kvs',rfl,b1,F1,hall⟩
   obtain⟨df,hf⟩:=F1.ins
   have gw:Gives (tIf (Ii (tOp rEq (tOp (rI (fun _ j=>0<j) fun i j=>.int (i % j)) (tOp (rI0 fun i j=>.int (i - j)) (Ae 1) (Ae 3)) (tC (.int 2))) (tC (.int 0)))) (Ae 2) (tOp (rI0 fun i j=>.int (i - j)) (tC (.int 1)) (Ae 2))) ([some (.ref f),some (.int n),some (.int (Aw mine)),some (.int (0+(i:Int))),v4]:L2.St) H' (.int (Aw (mj n mine i))):=fun Q q=>by
    have gm:Gives (tOp (rI (fun _ j=>0<j) fun i j=>.int (i % j)) (tOp (rI0 fun i j=>.int (i - j)) (Ae 1) (Ae 3)) (tC (.int 2))) ([some (.ref f),some (.int n),some (.int (Aw mine)),some (.int (0+(i:Int))),v4]:L2.St) H' (.int (((n:Int) - (0+(i:Int))) % 2)):=
     T3 (g:=fun i j=>V.int (i % j)) (YS (g:=fun i j=>V.int (i - j)) (AQ rfl) (AQ rfl)) Ax (show(0:Int)<2 by decide)
    refine BN gm Ax ?_
    unfold mj at q
    refine BY (fun h=>?_) (fun h=>?_)
    ·have h:((n:Int) - (0+(i:Int))) % 2=0:=of_decide_eq_true h
     rw[if_pos (show(n - i) % 2=0 by omega)]at q
     exact⟨_,rfl,q⟩
    ·have h:¬((n:Int) - (0+(i:Int))) % 2=0:=fun z=>h (decide_eq_true z)
     rw[if_neg (show ¬(n - i) % 2=0 by omega),<-OT]at q
     exact⟨_,rfl,_,_,rfl,rfl,q⟩
   refine sq_ (E2 gw ?_)
   refine⟨_,rfl,_,rfl,(by show 2<=sizeLine;decide),fun q hq=>?_⟩
   have s1:AK H' (upd H' q (.tup [V.int (0+(i:Int)),V.int (Aw (mj n mine i))])):=.new hq
   have ek:∀j:Nat,(Hd i (mj n mine i)).map kV=[V.int (0+(i:Int)),V.int (Aw (mj n mine i))]:=fun _=>by rw[PK,Int.zero_add]
   refine⟨_,rfl,f,a.BB,df,_,_,rfl,s1 _ _ hf,T.Ap,T.B7,rfl,td,_,rfl,Mu.t (k:=Hd i (mj n mine i)) (s1 _ _ F1.td) (by rw[ek 0];exact AB),_,rfl,?_⟩
   have F2:=F1.same s1
   have b2:But td H (upd H' q (.tup [V.int (0+(i:Int)),V.int (Aw (mj n mine i))])):=b1.trans s1.but
   generalize upd H' q (.tup [V.int (0+(i:Int)),V.int (Aw (mj n mine i))])=H2 at F2 b2
   obtain⟨df2,hf2⟩:=F2.ins
   cases hv:C3 kvs' (Hd i (mj n mine i))with
   |some v=>
    refine N6 ⟨_,_,kvs',rfl,b2,F2,fun m hm=>?_⟩
    by_cases e:m=i
    ·rw[e,hv];rfl
    ·exact hall m (by omega)
   |none=>
    refine LB ?_
    refine⟨_,rfl,f,df2,_,rfl,hf2,rfl,_,rfl,_,rfl,f,l,td,x0,la0,lw0,x1,la1,lw1,D,c0,c1,kvs',i,mj n mine i,by rw[Int.zero_add],F2,hne1,hne2,by omega,fun m hm=>?_,fun t num den H3 s3 ht R=>?_⟩
    ·subst hm
     rw[di mine (by omega)]
     exact hall m (by omega)
    ·have F3:=F2.same s3
     obtain⟨df3,hf3⟩:=F3.ins
     refine⟨_,rfl,f,a.BB,df3,_,_,rfl,hf3,T.Ap,T.B7,rfl,_,rfl,_,rfl,(by show 2<=sizeLine;decide),fun q2 hq2=>?_⟩
     have s4:AK H3 (upd H3 q2 (.tup [V.int (0+(i:Int)),V.int (Aw (mj n mine i))])):=.new hq2
     have F4:=F3.same s4
     have e4:(upd H3 q2 (.tup [V.int (0+(i:Int)),V.int (Aw (mj n mine i))])) q2=some (.tup ((Hd i (mj n mine i)).map kV)):=by rw[ek 0];exact AB
     have b4:But td H (upd H3 q2 (.tup [V.int (0+(i:Int)),V.int (Aw (mj n mine i))])):=(b2.trans s3.but).trans s4.but
     have ht4:=ht.same s4
     generalize upd H3 q2 (.tup [V.int (0+(i:Int)),V.int (Aw (mj n mine i))])=H4 at F4 e4 b4 ht4
     have few:=F4.few
     refine⟨td,_,rfl,ZI.t F4.td e4 (by omega),_,_,_,rfl,b4.trans But.upd,F4.put (by omega) hv ht4 R,fun m hm=>?_⟩
     rw[VW]
     by_cases e:Hd m (mj n mine m)=Hd i (mj n mine i)
     ·rw[if_pos e];rfl
     ·rw[if_neg e]
      have:m≠i:=fun z=>e (by rw[z])
      exact hall m (by omega)
  ·rintro σ H' ⟨v3,v4,kvs',rfl,b1,F1,hall⟩
   obtain⟨df,hf⟩:=F1.ins
   have hv:=hall n (by omega)
   rw[jG]at hv
   obtain⟨v,hv⟩:=Option.isSome_iff_exists.mp hv
   obtain⟨n',mine',t,num,den,hn',hk,rfl,ht,R⟩:=F1.ent _ _ hv
   have e12:n'=n/\mine'=mine:=by
    unfold Hd at hk
    injection hk with h1 h2
    injection h2 with h2 _
    have h1:=Sum.inl.inj h1
    have h2:=Sum.inl.inj h2
    refine⟨by omega,?_⟩
    cases mine <;> cases mine' <;> first|rfl|exact absurd h2 (by decide)
   obtain⟨rfl,rfl⟩:=e12
   refine⟨_,rfl,f,a.BB,df,_,_,rfl,hf,T.Ap,T.B7,rfl,_,rfl,_,rfl,(by show 2<=sizeLine;decide),fun q hq=>?_⟩
   have s1:AK H' (upd H' q (.tup [V.int (n':Int),V.int (Aw mine')])):=.new hq
   refine⟨td,.ref t,rfl,?_,k t num den kvs' _ (F1.same s1) (b1.trans s1.but) (ht.same s1) R⟩
   rw[<-hv]
   exact Mu.t (s1 _ _ F1.td) (by rw[PK];exact AB)
theorem Cy.own {H:Hp}{f l td x0 la0 lw0 x1 la1 lw1:Addr}{D:Duel}{c0 c1:Nat}{kvs:List (Md×V)}(F:Cy a H f l td x0 la0 lw0 x1 la1 lw1 D c0 c1 kvs)(mine:Bool):
  ∃x la lw,∃n:Nat,Aw mine=(n:Int)/\([V.ref x0,V.ref x1]:List V)[n]? =some (.ref x)/\A3 a H x la lw (D.side mine) (cOf mine c0 c1):=by
 cases mine with
 |true=>exact⟨x0,la0,lw0,0,rfl,rfl,F.s0⟩
 |false=>exact⟨x1,la1,lw1,1,rfl,rfl,F.s1⟩
def cu (a:Ad):Sp:=fun vs H Q E=>∃f l td x0 la0 lw0 x1 la1 lw1 D c0 c1 kvs,∃mine:Bool,vs=[.ref f,.int (Aw mine)]/\Cy a H f l td x0 la0 lw0 x1 la1 lw1 D c0 c1 kvs/\
 (3<=(D.side mine).acts.length->E (.ref a.Au) none H)/\((D.side mine).acts.length<3->Q .non H)
theorem cv:AL ["self","who"] ["self","who"] (AG DV):=⟨rfl,rfl,rfl,by decide +kernel,rfl,by decide +kernel,by decide +kernel⟩
theorem X5 (T:Tx K mg a):Fn P w K mg base (CXR P w) 1 a.C0 ["self","who"] (cu a):=by
 obtain⟨fd,F,hb⟩:=T.LD
 refine F.fnR hb cv (fun vs H Q E h=>?_) (fun cdv A outer s H vs Q E hr h=>?_)
 ·obtain⟨f,l,td,x0,la0,lw0,x1,la1,lw1,D,c0,c1,kvs,mine,rfl,_⟩:=h
  rfl
 ·obtain⟨f,l,td,x0,la0,lw0,x1,la1,lw1,D,c0,c1,kvs,mine,rfl,Ft,k1,k2⟩:=h
  refine⟨_,AF (BR (Ag fT (AZ Ai rfl T.EJ CU (AA (AJ (Aa AR (AJ (pv 0) rfl) (pv 1) (fun _ _=>rfl)) rfl) AE)) AH (Am _)) (AF (BW CY rfl rfl T.CP T.BE)) Al),?_⟩
  obtain⟨df,hf⟩:=Ft.ins
  obtain⟨x,la,lw,n,ew,en,S⟩:=Ft.own mine
  obtain⟨dx,hx⟩:=S.ins
  obtain⟨as,hla,pas⟩:=S.acts
  have las:as.length=(D.side mine).acts.length:=pas.length
  refine⟨_,rfl,f,a.BB,df,_,_,rfl,hf,T.Ap,T.Aq,rfl,_,rfl,l,_,_,_,rfl,rfl,SqL.of Ft.lst,at_of ew en,x,a.Side,dx,_,_,rfl,hx,T.BA,T.BS,rfl,la,_,rfl,.inl (SqL.of hla),_,_,rfl,rfl,_,rfl,?_⟩
  refine BY (fun h=>?_) (fun h=>?_)
  ·have h:(3:Int)<=(((as.map V.ref).length:Nat):Int):=of_decide_eq_true h
   rw[List.length_map]at h
   exact k1 (by omega)
  ·have h:¬(3:Int)<=(((as.map V.ref).length:Nat):Int):=fun z=>h (decide_eq_true z)
   rw[List.length_map]at h
   exact k2 (by omega)
def jx (a:Ad):Sp:=fun vs H Q E=>∃f l td x0 la0 lw0 x1 la1 lw1 D c0 c1 kvs,∃x y:Nat,vs=[.ref f,.int x,.int y]/\Cy a H f l td x0 la0 lw0 x1 la1 lw1 D c0 c1 kvs/\
 ((D.first.hp<x\/D.second.hp<y)->E (.ref a.BV) none H)/\(x<=D.first.hp->y<=D.second.hp->(D.first.acts=[]\/D.second.acts=[])->E (.ref a.DS) none H)/\
 (x<=D.first.hp->y<=D.second.hp->D.first.acts≠[]->D.second.acts≠[]->Q .non H)
theorem fU:AL ["self","a","b","side"] ["self","a","b"] (AG Cm):=⟨rfl,rfl,rfl,by decide +kernel,rfl,by decide +kernel,by decide +kernel⟩
theorem Z1 (T:Tx K mg a):Fn P w K mg base (CXR P w) 1 a.CH ["self","a","b"] (jx a):=by
 obtain⟨fd,F,hb⟩:=T.JK
 refine F.fnR hb fU (fun vs H Q E h=>?_) (fun cdv A outer s H vs Q E hr h=>?_)
 ·obtain⟨f,l,td,x0,la0,lw0,x1,la1,lw1,D,c0,c1,kvs,x,y,rfl,_⟩:=h
  rfl
 ·obtain⟨f,l,td,x0,la0,lw0,x1,la1,lw1,D,c0,c1,kvs,x,y,rfl,Ft,k1,k2,k3⟩:=h
  have nd:=fU.nd
  refine⟨_,AD (BR (Oi (Ag Ih (pv 1) (AJ (Aa AR (AJ (pv 0) rfl) AH (fun _ _=>rfl)) rfl) (Am _)) (Me (Ag Ih (pv 2) (AJ (Aa AR (AJ (pv 0) rfl) AH (fun _ _=>rfl)) rfl) (Am _)))).pt (AF (BW CY rfl rfl T.Et T.Bc)) Al)
   (AF (BD VC rfl (Cz (AJ (pv 0) rfl)) (AX (i:=3) nd rfl (Or.inl rfl))
    (AF (BR (Ag DC (AZ Ai rfl T.EJ CU (AA (AJ (pv 3) rfl) AE)) AH (Am _)) (AF (BW CY rfl rfl T.Ln T.DE)) Al)))),?_⟩
  obtain⟨df,hf⟩:=Ft.ins
  obtain⟨d0,hx0⟩:=Ft.s0.ins
  obtain⟨d1,hx1⟩:=Ft.s1.ins
  obtain⟨as0,hla0,p0⟩:=Ft.s0.acts
  obtain⟨as1,hla1,p1⟩:=Ft.s1.acts
  have l0:as0.length=D.first.acts.length:=p0.length
  have l1:as1.length=D.second.acts.length:=p1.length
  have loop:x<=D.first.hp->y<=D.second.hp->iO (aE K (Bq K (Ae 0) "sides")) (Eu 3) (aF (Ii (tOp rEq (tCB (fun xs H Q=>∃p ys,xs=[.ref p]/\(SqL K H p ys\/SqT K H p ys)/\Q (.int ys.length) H) (CG (Bq K (Ae 3) "acts") DT)) (tC (.int 0)))) (Wq a.DS E) Rw) {nx:=fun _ H'=>Q .non H',rt:=Q} [some (.ref f),some (.int x),some (.int y),none] H:=fun hx hy=>by
   refine⟨_,rfl,f,a.BB,df,_,_,rfl,hf,T.Ap,T.Aq,rfl,l,rfl,⟨_,SqL.of Ft.lst⟩,Dr (K:=K) (a:=l) (xs:=[V.ref x0,V.ref x1]) (fun i σ H'=>∃v:Option V,σ=[some (.ref f),some (.int x),some (.int y),v]/\H'=H/\(0<i->D.first.acts≠[])/\(1<i->D.second.acts≠[]))
    ⟨none,rfl,rfl,fun h=>absurd h (by omega),fun h=>absurd h (by omega)⟩ (fun i σ H' _ ⟨_,_,e,_⟩=>by rw[e];exact SqL.of Ft.lst) ?_ ?_⟩
   ·rintro i v σ H' hi ⟨v',rfl,rfl,h1,h2⟩
    match i,hi with
    |0,hi=>
     have e:=Option.some.inj hi
     subst e
     refine BN (i:=((as0.map V.ref).length:Nat)) (Mi (A9 (AQ rfl) hx0 T.BA T.BS rfl) (SqL.of hla0)) Ax ?_
     refine BY (fun h=>?_) (fun h=>?_)
     ·have h:(((as0.map V.ref).length:Nat):Int)=0:=of_decide_eq_true h
      rw[List.length_map]at h
      exact k2 hx hy (.inl (List.length_eq_zero_iff.mp (by omega)))
     ·have h:¬(((as0.map V.ref).length:Nat):Int)=0:=fun z=>h (decide_eq_true z)
      rw[List.length_map]at h
      exact⟨_,rfl,rfl,fun _ z=>h (by rw[z]at l0;simp at l0;rw[l0];rfl),fun z=>absurd z (by omega)⟩
    |1,hi=>
     have e:=Option.some.inj hi
     subst e
     refine BN (i:=((as1.map V.ref).length:Nat)) (Mi (A9 (AQ rfl) hx1 T.BA T.BS rfl) (SqL.of hla1)) Ax ?_
     refine BY (fun h=>?_) (fun h=>?_)
     ·have h:(((as1.map V.ref).length:Nat):Int)=0:=of_decide_eq_true h
      rw[List.length_map]at h
      exact k2 hx hy (.inr (List.length_eq_zero_iff.mp (by omega)))
     ·have h:¬(((as1.map V.ref).length:Nat):Int)=0:=fun z=>h (decide_eq_true z)
      rw[List.length_map]at h
      exact⟨_,rfl,rfl,fun _=>h1 (by omega),fun _ z=>h (by rw[z]at l1;simp at l1;rw[l1];rfl)⟩
    |i+2,hi=>simp at hi
   ·rintro σ H' ⟨v',rfl,rfl,h1,h2⟩
    exact k3 hx hy (h1 (by show 0<2;decide)) (h2 (by show 1<2;decide))
  have gs:∀{n:Nat}{xx dx:Addr}{hp:Int}{r:List (Str×V)}{σ:L2.St},σ[0]? =some (some (.ref f))->([V.ref x0,V.ref x1]:List V)[n]? =some (.ref xx)->H xx=some (.ins a.Side dx (("most",.int hp)::r))->Gives (Bq K (tOp (N0 K) (Bq K (Ae 0) "sides") (tC (.int n))) "most") σ H (.int hp):=fun e en ex=>
   A9 (Fc (A9 (AQ e) hf T.Ap T.Aq rfl) Ax (SqL.of Ft.lst) en) ex T.BA T.CC rfl
  refine sq_ ?_
  refine CZ (AQ (v:=.int x) rfl) (gs (n:=0) rfl rfl hx0) ?_
  refine BY (fun h=>?_) (fun h=>?_)
  ·have h:(D.first.hp:Int)<x:=of_decide_eq_true h
   exact LB (k1 (.inl (by omega)))
  ·have h:¬(D.first.hp:Int)<x:=fun z=>h (decide_eq_true z)
   refine CZ (AQ (v:=.int y) rfl) (gs (n:=1) rfl rfl hx1) ?_
   refine BY (fun h'=>?_) (fun h'=>?_)
   ·have h':(D.second.hp:Int)<y:=of_decide_eq_true h'
    exact k1 (.inr (by omega))
   ·have h':¬(D.second.hp:Int)<y:=fun z=>h' (decide_eq_true z)
    exact loop (by omega) (by omega)
end
theorem Nl (h:CF a H z act)(hx:H x=some (.ins a.Side dx (("most",v)::r))):z≠x:=by
 obtain⟨c,⟨dz,hz⟩,_⟩:=h
 refine Af hz hx fun q=>?_
 injection q with _ _ q
 cases q
theorem A3.lS (S:A3 a H x1 la1 lw1 s c)(S':A3 a H x la lw s' c')(hl:s'.acts.length<3)(n1:x1≠x)(n2:la1≠la)(n3:lw1≠la)(b:jT x la H H'):A3 a H' x1 la1 lw1 s c:=by
 obtain⟨dx,hx⟩:=S'.ins
 obtain⟨as',hla',p'⟩:=S'.acts
 have len':as'.length=s'.acts.length:=p'.length
 obtain⟨d1,h1⟩:=S.ins
 obtain⟨as,hla,pa⟩:=S.acts
 obtain⟨ws,hlw,pw⟩:=S.ws
 have nl:∀{b:Addr}{xs:List V},H b=some (.lst xs)->b≠x:=fun e=>Af e hx (by intro z;cases z)
 have n16:∀{b:Addr}{o:List Nat},H b=some (.lst (nv o))->o.length=16->b≠la:=fun e ho=>Af e hla' fun q=>by
  injection q with q
  have:=congrArg List.length q
  rw[Ar,List.length_map]at this
  omega
 refine⟨⟨d1,b _ _ n1 (Af h1 hla' (by intro z;cases z)) h1⟩,⟨as,b _ _ (nl hla) n2 hla,pa.Jn fun z act _ hm hz=>?_⟩,⟨ws,b _ _ (nl hlw) n3 hlw,pw.Jn fun z act _ hm hz=>b _ _ (nl hz) (n16 hz (Dm.Hl c (S.sd.good act hm).1)) hz⟩,S.sd⟩
 have nzx:=Nl hz hx
 obtain⟨cc,⟨dz,hzi⟩,hcc⟩:=hz
 exact⟨cc,⟨dz,b _ _ nzx (Af hzi hla' (by intro z;cases z)) hzi⟩,b _ _ (nl hcc) (n16 hcc (S.sd.good act hm).1.len) hcc⟩
def Pb (D:Duel)(mine:Bool)(act:Act):Duel:=if mine=true then{D with first:={D.first with acts:=D.first.acts++[act]}} else{D with second:={D.second with acts:=D.second.acts++[act]}}
section
variable {P:Program}{w:World}{K:PySem.W.Frag}{mg:Str->Option Value}{base:Heap}{a:Ad}
def eM (a:Ad):Sp:=fun vs H Q _=>∃f l td x0 la0 lw0 x1 la1 lw1 D c0 c1 kvs,∃(mine:Bool) (y:Addr) (act:Act),vs=[.ref f,.int (Aw mine),.ref y]/\Cy a H f l td x0 la0 lw0 x1 la1 lw1 D c0 c1 kvs/\CF a H y act/\Dm.Good act/\(D.side mine).acts.length<3/\
 ∀td' lw0' lw1' c0' c1' H',Cy a H' f l td' x0 la0 lw0' x1 la1 lw1' (Pb D mine act) c0' c1' []->(∀b o,b≠f->b≠x0->b≠x1->b≠la0->b≠la1->H b=some o->H' b=some o)->H td'=none->Q (.int (((D.side mine).acts.length+1:Nat):Int)) H'
theorem eN:AL ["self","who","act"] ["self","who","act"] (AG EW):=⟨rfl,rfl,rfl,by decide +kernel,rfl,by decide +kernel,by decide +kernel⟩
theorem YY (T:Tx K mg a):Fn P w K mg base CX0 4 a.D6 ["self","who","act"] (eM a):=by
 obtain⟨fd,F,hb⟩:=T.M8
 refine F.fn hb eN (fun vs H Q E h=>?_) (fun cdv A outer s H vs Q E hr h=>?_)
 ·obtain⟨f,l,td,x0,la0,lw0,x1,la1,lw1,D,c0,c1,kvs,mine,y,act,rfl,_⟩:=h
  rfl
 ·obtain⟨f,l,td,x0,la0,lw0,x1,la1,lw1,D,c0,c1,kvs,mine,y,act,rfl,Ft,hy,g,hlen,k⟩:=h
  refine⟨_,AD (Az (B4 (Aa AR (AJ (pv 0) rfl) (pv 1) (fun _ _=>rfl)) T.BA T.Po (jU T) hr AU (AA (pv 2) AE)))
   (AD (BH (pv 0) O9 rfl)
   (AF (AO (AZ Ai rfl T.EJ CU (AA (AJ (Aa AR (AJ (pv 0) rfl) (pv 1) (fun _ _=>rfl)) rfl) AE))))),?_⟩
  obtain⟨df,hf⟩:=Ft.ins
  obtain⟨d0,hx0⟩:=Ft.s0.ins
  obtain⟨d1,hx1⟩:=Ft.s1.ins
  obtain⟨as0,hla0,p0⟩:=Ft.s0.acts
  obtain⟨as1,hla1,p1⟩:=Ft.s1.acts
  have nfs:∀{b d:Addr}{v:V}{r:List (Str×V)},H b=some (.ins a.Side d (("most",v)::r))->f≠b:=fun e=>Af hf e fun q=>by
   injection q with _ _ q
   cases q
  have nfl:∀{b:Addr}{xs:List V},H b=some (.lst xs)->f≠b:=fun e=>Af hf e (by intro z;cases z)
  have nls:∀{b d:Addr}{v:V}{r:List (Str×V)},H b=some (.ins a.Side d (("most",v)::r))->l≠b:=fun e=>Af Ft.lst e (by intro z;cases z)
  have nla:∀{b:Addr}{as:List Addr}{acts:List Act},H b=some (.lst (as.map V.ref))->Paired (fun x act=>CF a H x act) as acts->l≠b:=fun{b as acts} e p=>Af Ft.lst e fun q=>by
   injection q with q
   cases p with
   |nil=>simp at q
   |cons r t=>
    simp only[List.map_cons,List.cons.injEq]at q
    have e:=V.ref.inj q.1
    subst e
    exact Nl r hx0 rfl
  have b1:=Ft.hp1
  have b2:=Ft.hp2
  have fin:∀(x la lw':Addr) (H1:Hp) (n:Nat) (acts':List Act) (s':Side) (lw0' lw1' c0' c1':Nat),Aw mine=(n:Int)->([V.ref x0,V.ref x1]:List V)[n]? =some (.ref x)->jT x la H H1->(x=x0\/x=x1)->(la=la0\/la=la1)->f≠x->f≠la->l≠x->l≠la->
    (∃lw'' c'',A3 a H1 x la lw'' s' c'')->s'.acts.length=(D.side mine).acts.length+1->A3 a H1 x0 la0 lw0' (Pb D mine act).first c0'->A3 a H1 x1 la1 lw1' (Pb D mine act).second c1'->la0≠lw1'->la1≠lw0'->
    Qv (kK K (Ae 0) ag "tables") (Ql (tCB (fun xs H Q=>∃p ys,xs=[.ref p]/\(SqL K H p ys\/SqT K H p ys)/\Q (.int ys.length) H) (CG (Bq K (tOp (N0 K) (Bq K (Ae 0) "sides") (Ae 1)) "acts") DT))) {nx:=fun _ H'=>Q .non H',rt:=Q} [some (.ref f),some (.int (Aw mine)),some (.ref y)] H1:=fun x la lw' H1 n acts' s' lw0' lw1' c0' c1' ew en bt hxx hll nf1 nf2 nl1 nl2 S' hsl S0 S1 n01 n10=>by
   have hf1:H1 f=some _:=bt _ _ nf1 nf2 hf
   have hl1:H1 l=some _:=bt _ _ nl1 nl2 Ft.lst
   intro td' htd
   have nft:f≠td':=AM hf1 htd
   refine⟨_,rfl,f,a.BB,df,_,rfl,(by rw[AI nft];exact hf1),T.Ap,T.B7,(by show 2<1000;decide),?_⟩
   have ep:ER "tables" (V.ref td') ([("sides",.ref l),("tables",.ref td)]:List (Str×V))=([("sides",.ref l),("tables",.ref td')]:List (Str×V)):=by rw[Ak (by decide),IE]
   rw[ep]
   have k2:∀b o,b≠f->H1 b=some o->(upd (upd H1 td' (.dT [])) f (.ins a.BB df [("sides",.ref l),("tables",.ref td')])) b=some o:=fun b o nb e=>by rw[AI nb,AI (AM e htd)];exact e
   have hf2:(upd (upd H1 td' (.dT [])) f (.ins a.BB df [("sides",.ref l),("tables",.ref td')])) f=some _:=AB
   have htd2:(upd (upd H1 td' (.dT [])) f (.ins a.BB df [("sides",.ref l),("tables",.ref td')])) td'=some (.dT []):=by rw[AI (Ne.symm nft)];exact AB
   generalize upd (upd H1 td' (.dT [])) f (.ins a.BB df [("sides",.ref l),("tables",.ref td')])=H2 at k2 hf2 htd2
   have side2:∀{xx laa lww:Addr}{ss:Side}{cc:Nat},A3 a H1 xx laa lww ss cc->A3 a H2 xx laa lww ss cc:=fun{xx laa lww ss cc} S=>by
    have nlf:∀{b:Addr}{xs:List V},H1 b=some (.lst xs)->b≠f:=fun e=>Af e hf1 (by intro z;cases z)
    obtain⟨dd,hh⟩:=S.ins
    obtain⟨as,hla,pa⟩:=S.acts
    obtain⟨ws,hlw,pw⟩:=S.ws
    refine⟨⟨dd,k2 _ _ (Af hh hf1 fun q=>by injection q with _ _ q;cases q) hh⟩,⟨as,k2 _ _ (nlf hla) hla,pa.Jn fun z act _ _ hz=>?_⟩,⟨ws,k2 _ _ (nlf hlw) hlw,pw.Jn fun z act _ _ hz=>k2 _ _ (nlf hz) hz⟩,S.sd⟩
    obtain⟨cc',⟨dz,hzi⟩,hcc⟩:=hz
    exact⟨cc',⟨dz,k2 _ _ (Af hzi hf1 fun q=>by injection q with _ _ q;cases q) hzi⟩,k2 _ _ (nlf hcc) hcc⟩
   obtain⟨lw'',c'',S''⟩:=S'
   obtain⟨dd,hh⟩:=(side2 S'').ins
   obtain⟨as,hla,pa⟩:=(side2 S'').acts
   have lal:as.length=s'.acts.length:=pa.length
   have hl2:H2 l=some _:=k2 _ _ (Af hl1 hf1 (by intro z;cases z)) hl1
   refine⟨_,rfl,f,a.BB,df,_,_,rfl,hf2,T.Ap,T.Aq,rfl,_,rfl,l,_,_,_,rfl,rfl,SqL.of hl2,at_of ew en,x,a.Side,dd,_,_,rfl,hh,T.BA,T.BS,rfl,la,_,rfl,.inl (SqL.of hla),?_⟩
   rw[List.length_map,lal,hsl]
   refine k td' lw0' lw1' c0' c1' H2 ⟨⟨df,hf2⟩,hl2,side2 S0,side2 S1,Ft.nx,Ft.nl,n01,n10,htd2,List.nodup_nil,(fun k v e=>by rw[VU]at e;cases e),?_,?_⟩ ?_ ?_
   ·cases mine <;> exact b1
   ·cases mine <;> exact b2
   ·intro b o hbf hb0 hb1 hba hbb e
    refine k2 b o hbf (bt b o ?_ ?_ e)
    ·rcases hxx with z|z
     ·rw[z];exact hb0
     ·rw[z];exact hb1
    ·rcases hll with z|z
     ·rw[z];exact hba
     ·rw[z];exact hbb
   ·cases q:H td' with
    |none=>rfl
    |some o=>
     by_cases e1:td'=x
     ·obtain⟨d'',h''⟩:=S''.ins
      rw[e1,h'']at htd;cases htd
     ·by_cases e2:td'=la
      ·obtain⟨as',h',_⟩:=S''.acts
       rw[e2,h']at htd;cases htd
      ·rw[bt _ _ e1 e2 q]at htd;cases htd
  cases mine with
  |true=>
   refine⟨_,rfl,f,a.BB,df,_,_,rfl,hf,T.Ap,T.Aq,rfl,_,rfl,l,_,_,_,rfl,rfl,SqL.of Ft.lst,BO (j:=0) rfl,x0,d0,_,rfl,hx0,rfl,_,rfl,x0,la0,lw0,y,D.first,c0,act,rfl,Ft.s0,hy,g,hlen,fun lw' H1 S' hlw' bt=>?_⟩
   have n1:la1≠lw':=AM hla1 hlw'
   exact fin x0 la0 lw' H1 0 [] _ lw' lw1 _ c1 rfl rfl bt (.inl rfl) (.inl rfl) (nfs hx0) (nfl hla0) (nls hx0) (nla hla0 p0) ⟨_,_,S'⟩ (by show(D.first.acts++[act]).length=_;rw[List.length_append];rfl) S' (Ft.s1.lS Ft.s0 hlen (Ne.symm Ft.nx) (Ne.symm Ft.nl) (Ne.symm Ft.n01) bt) Ft.n01 n1
  |false=>
   refine⟨_,rfl,f,a.BB,df,_,_,rfl,hf,T.Ap,T.Aq,rfl,_,rfl,l,_,_,_,rfl,rfl,SqL.of Ft.lst,BO (j:=1) rfl,x1,d1,_,rfl,hx1,rfl,_,rfl,x1,la1,lw1,y,D.second,c1,act,rfl,Ft.s1,hy,g,hlen,fun lw' H1 S' hlw' bt=>?_⟩
   have n1:la0≠lw':=AM hla0 hlw'
   exact fin x1 la1 lw' H1 1 [] _ lw0 lw' c0 _ rfl rfl bt (.inr rfl) (.inr rfl) (nfs hx1) (nfl hla1) (nls hx1) (nla hla1 p1) ⟨_,_,S'⟩ (by show(D.second.acts++[act]).length=_;rw[List.length_append];rfl) (Ft.s0.lS Ft.s1 hlen Ft.nx Ft.nl Ft.n10.symm bt) S' n1 Ft.n10
end
def kk (l:List Nat):List Key:=l.map fun n:Nat=>(Sum.inl (n:Int):Key)
def wV (W:Dm.Cs):List (List Key×V):=W.map fun kw=>(kk kw.1,V.int (kw.2:Nat))
theorem bc (l:List Nat):(kk l).map kV=nv l:=by unfold kk nv;rw[List.map_map,List.map_map];rfl
theorem cg (h:kk l=kk m):l=m:=by
 unfold kk at h
 exact(List.map_inj_right (f:=fun n:Nat=>(Sum.inl (n:Int):Key)) (fun x y e=>Int.ofNat.inj (Sum.inl.inj e))).mp h
theorem cj (l m:List Nat):(kk l=kk m)=(l=m):=propext ⟨cg,fun h=>by rw[h]⟩
theorem jt (W:Dm.Cs)(k:List Nat):(C3 (wV W) (kk k)).getD (.int 0)=.int (Dm.OC W k:Nat):=by
 induction W with
 |nil=>rfl
 |cons p r ih=>
  by_cases e:p.1=k
  ·have e1:C3 (wV (p::r)) (kk k)=some (.int (p.2:Nat)):=CN (p:=(kk p.1,V.int (p.2:Nat))) (by rw[e])
   rw[e1]
   unfold Dm.OC
   rw[List.find?_cons,decide_eq_true e]
   rfl
  ·have e1:C3 (wV (p::r)) (kk k)=C3 (wV r) (kk k):=CO (p:=(kk p.1,V.int (p.2:Nat))) (fun z=>e (cg z))
   rw[e1,ih]
   unfold Dm.OC
   rw[List.find?_cons,decide_eq_false e]
theorem ju (W:Dm.Cs)(k:List Nat)(v:Nat):putK (wV W) (kk k) (.int (v:Nat))=wV (Dm.LQ W k v):=by
 unfold putK Dm.LQ
 have e1:((wV W).any fun kv=>decide (kv.1=kk k))=(W.any fun kw=>decide (kw.1=k)):=by
  unfold wV
  rw[List.any_map]
  congr 1
  funext p
  show decide (kk p.1=kk k)=_
  simp only[cj]
 rw[e1]
 split
 ·unfold wV
  rw[List.map_map,List.map_map]
  refine List.map_congr_left fun p _=>?_
  show(if kk p.1=kk k then(kk p.1,V.int (v:Nat))else(kk p.1,V.int (p.2:Nat)))=(kk (if p.1=k then(p.1,v)else p).1,V.int ((if p.1=k then(p.1,v)else p).2:Nat))
  simp only[cj]
  split <;> rfl
 ·unfold wV
  rw[List.map_append]
  rfl
theorem gS {W:Dm.Cs}{i:Nat}{k:List Key}{v:V}(h:(wV W)[i]? =some (k,v)):∃kw,W[i]? =some kw/\k=kk kw.1/\v=.int (kw.2:Nat):=by
 unfold wV at h
 rw[List.getElem?_map]at h
 cases e:W[i]? with
 |none=>rw[e]at h;cases h
 |some kw=>
  rw[e]at h
  have:=Option.some.inj h
  exact⟨kw,rfl,(congrArg Prod.fst this).symm,(congrArg Prod.snd this).symm⟩
theorem Xk (W:Dm.Cs):(wV W).length=W.length:=by unfold wV;rw[List.length_map]
end Fd
namespace Dm
theorem mU:∀{l:List α},(∀a∈l,f a<=g a)->T f l<=T g l
 |[],_=>Int.le_refl _
 |a::r,h=>by
  rw[B0,B0]
  have h1:=h a List.mem_cons_self
  have h2:=mU (l:=r) fun b hb=>h b (List.mem_cons_of_mem _ hb)
  omega
theorem Wk:∀{l:List α},(∀a∈l,0<=f a)->0<=T f l
 |[],_=>Int.le_refl _
 |a::r,h=>by
  rw[B0]
  have h1:=h a List.mem_cons_self
  have h2:=Wk (l:=r) fun b hb=>h b (List.mem_cons_of_mem _ hb)
  omega
theorem mV:T (fun _:Nat=>(1:Int)) (List.range n)=(n:Int):=by
 unfold T
 rw[List.map_const',List.length_range,List.sum_replicate_int]
 omega
theorem Yv (f:α->Int)(c:Int):∀(l:List α),T (fun a=>f a*c) l=T f l*c
 |[]=>by rw[Hk,Hk,Int.zero_mul]
 |a::r=>by rw[B0,B0,Yv f c r,Int.add_mul]
theorem CJ.few (A:After faces k g j W)(B:CJ faces k g j W i m G)(hm:m<=faces):G.length<=faces ^ (j+1):=by
 have h:=V5 G B.pos
 rw[B.val]at h
 simp only[mV]at h
 have h1:T (fun kw:List Nat×Nat=>(kw.2:Int)*(m:Int)) ((W.drop i).take 1)<=T (fun kw:List Nat×Nat=>(kw.2:Int)*(faces:Int)) ((W.drop i).take 1):=
  mU fun a _=>Int.mul_le_mul_of_nonneg_left (by omega) (by omega)
 have h2:T (fun kw:List Nat×Nat=>(kw.2:Int)*(faces:Int)) W=T (fun kw:List Nat×Nat=>(kw.2:Int)*(faces:Int)) (W.take i)+(T (fun kw:List Nat×Nat=>(kw.2:Int)*(faces:Int)) ((W.drop i).take 1)+T (fun kw:List Nat×Nat=>(kw.2:Int)*(faces:Int)) ((W.drop i).drop 1)):=by
  rw[<-Fy,List.take_append_drop,<-Fy,List.take_append_drop]
 have h3:0<=T (fun kw:List Nat×Nat=>(kw.2:Int)*(faces:Int)) ((W.drop i).drop 1):=Wk fun a _=>Int.mul_nonneg (by omega) (by omega)
 have h4:T (fun kw:List Nat×Nat=>(kw.2:Int)*(faces:Int)) W=((faces ^ (j+1):Nat):Int):=by
  rw[Yv]
  have e:=A.val fun _=>1
  rw[Je]at e
  unfold D at e
  simp only[Int.mul_one]at e
  rw[e,Nat.pow_succ]
  push_cast
  rfl
 omega
end Dm
namespace L2
open PySem PySem.Spec PyProof.Rows
def mR (K:PySem.W.Frag):R2:=fun x y H Q=>∃a b xs ys,x=.ref a/\y=.ref b/\SqT K H a xs/\SqT K H b ys/\ys≠[]/\xs.length+ys.length<=sizeLine/\∀t H',AK H H'->SqT K H' t (xs++ys)->Q (.ref t) H'
theorem fP:OpR X (binaryOp .Add) (mR X.K):=by
 intro pins s σ H x y u v Q I r1 r2 ⟨a,b,xs,ys,e1,e2,h1,h2,ne,hz,q⟩
 by_cases e:xs=[]
 ·subst e
  exact eA pins s σ H x y u v Q I r1 r2 ⟨a,b,ys,e1,e2,h1,h2,q b H (AK.refl H) (by rw[List.nil_append];exact h2)⟩
 ·exact dP pins s σ H x y u v Q I r1 r2 ⟨a,b,xs,ys,e1,e2,h1,h2,e,hz,fun z=>absurd z ne,fun _ p hp=>q p _ (.new hp) (SqT.of AB)⟩
end L2
namespace Fd
open PySem PySem.Spec PyProof.Rows L2
section
variable {P:Program}{w:World}{K:PySem.W.Frag}{mg:Str->Option Value}{base:Heap}{a:Ad}
theorem js (l:List Nat):(nv l).reverse=nv l.reverse:=by unfold nv;rw[List.map_reverse,List.map_reverse]
def Nc (a:Ad):Sp:=fun vs H Q _=>∃p d,vs=[.ref p]/\DX a H p d/\∀r H',AK H H'->DX a H' r (Vbrgag.negated d)->Q (.ref r) H'
theorem Ny:AL ["spread","greatest"] ["spread"] (AG LZ):=⟨rfl,rfl,rfl,by decide +kernel,rfl,by decide +kernel,by decide +kernel⟩
theorem Vg (T:Tx K mg a):Fn P w K mg base CX0 3 a.mirrored ["spread"] (Nc a):=by
 obtain⟨fd,F,hb⟩:=T.Xo
 refine F.fn hb Ny (fun vs H Q E h=>?_) (fun cdv A outer s H vs Q E hr h=>?_)
 ·obtain⟨p,d,rfl,_⟩:=h
  rfl
 ·obtain⟨p,d,rfl,⟨c,⟨dx,hp⟩,hc⟩,k⟩:=h
  have nd:=Ny.nd
  refine⟨_,AD (AN (i:=1) nd rfl (Or.inl rfl) (AS Bm (AS Ba (AJ (pv 0) rfl) (AZ Ai rfl T.EJ CU (AA (AJ (pv 0) rfl) AE))) AH))
   (AF (AO (Dv T.Fj (Bj T) hr rfl T.Fl AU (AA (JT Fo (pv 1)) (AA (Xy rfl rfl T.jf rfl T.Xt (AJ (pv 0) rfl)) AE))))),?_⟩
  refine⟨_,rfl,p,a.Ao,dx,_,_,rfl,hp,T.AY,T.A5,rfl,_,rfl,p,a.Ao,dx,_,_,rfl,hp,T.AY,T.Ab,rfl,c,_,rfl,.inl (SqL.of hc),_,_,rfl,rfl,_,_,rfl,rfl,?_⟩
  refine⟨_,rfl,_,rfl,_,rfl,p,a.Ao,dx,_,_,rfl,hp,T.AY,T.Ab,rfl,c,_,rfl,SqL.of hc,fun l hl=>?_⟩
  intro x dx2 nx ndx ne
  refine⟨x,dx2,_,_,rfl,AB,fun H2 hx2 b2=>⟨rfl,?_⟩⟩
  have s2:=(AK.init nx ndx b2)
  refine k x H2 ((AK.new hl).trans s2) ⟨l,⟨dx2,?_⟩,?_⟩
  ·rw[Ar]at hx2
   exact hx2
  ·have:=s2 l _ AB
   rw[js]at this
   exact this
def Wh (a:Ad):Sp:=fun vs H Q _=>∃d,∃(f k:Nat) (g:Bool) (j:Nat) (W:Dm.Cs),vs=[.ref d,.int f,.int k,.bl g]/\H d=some (.dT (wV W))/\Dm.After f k g j W/\f<=100/\j<60/\f ^ (j+1)<sizeLine/\
 ∀r H' W',AK H H'->H' r=some (.dT (wV W'))->Dm.After f k g (j+1) W'->Q (.ref r) H'
theorem Nz:AL ["ways_of_held","faces","kept","greatest","grown","held","ways","face","longer"] ["ways_of_held","faces","kept","greatest"] (AG GA):=⟨rfl,rfl,rfl,by decide +kernel,rfl,by decide +kernel,by decide +kernel⟩
theorem WC (T:Tx K mg a):Fn P w K mg base CX0 2 a.FU ["ways_of_held","faces","kept","greatest"] (Wh a):=by
 obtain⟨fd,F,hb⟩:=T.QB
 refine F.fn hb Nz (fun vs H Q E h=>?_) (fun cdv A outer s H vs Q E hr h=>?_)
 ·obtain⟨d,f,k,g,j,W,rfl,_⟩:=h
  rfl
 ·obtain⟨d,f,k,g,j,W,rfl,hd,hA,hf,hj,hfew,kk0⟩:=h
  have nd:=Nz.nd
  refine⟨_,AD (AN (i:=4) nd rfl (Or.inl rfl) O9)
   (AD (Tr (BD PassesOwn.never rfl (Sl (pv 0)) (Hw rfl (BL (AX (i:=5) nd rfl (Or.inl rfl)) (BL (AX (i:=6) nd rfl (Or.inl rfl)) FC)))
    (AF (BD PassesOwn.never rfl (R7 rfl T.Cc (AA AH (AA (AS Ba (pv 1) AH) AE))) (AX (i:=7) nd rfl (Or.inl rfl))
     (AD (AN (i:=8) nd rfl (Or.inl rfl) (SE Qx rfl T.fC bA (AA (Ac (Ys T) hr rfl T.MN AU (AA (AS fP (pv 5) (LK (AA (pv 7) AE))) (AA (pv 2) (AA (pv 3) AE)))) AE)))
     (AF (YM (PB hr) (pv 4) (pv 8) (AS Ba (ah (PB hr) (pv 4) (pv 8) AH ⟨rfl,rfl,rfl,rfl⟩) (pv 6)) rfl)))))))
   (AF (AO (pv 4)))),?_⟩
  have hs:sizeLine=16777216:=sizeLine_eq
  intro r hr0
  have hd1:(upd H r (.dT [])) d=some (.dT (wV W)):=by rw[AI (AM hd hr0)];exact hd
  have hrd:r≠d:=fun z=>by rw[z,hd]at hr0;cases hr0
  refine⟨d,_,hd1,True.intro,fun od=>?_⟩
  refine⟨_,rfl,d,od,_,rfl,AB,Pz (d:=d) (o:=od) (kvs:=wV W)
   (fun i σ H'=>∃(v5 v6 v7 v8:Option V) (G:Dm.Cs),σ=[some (.ref d),some (.int f),some (.int k),some (.bl g),some (.ref r),v5,v6,v7,v8]/\But d H H'/\H' d=some (.frz od (.dT (wV W)))/\H' r=some (.dT (wV G))/\Dm.CJ f k g j W i 0 G)
   ⟨none,none,none,none,[],rfl,(AK.new hr0).but.trans But.upd,AB,by rw[AI hrd];exact AB,Dm.CJ.start f k g j W⟩ (fun i σ H' _ ⟨_,_,_,_,_,_,_,e,_⟩=>e) ?_ ?_⟩
  ·rintro i key v σ H' T1 q hi ⟨v5,v6,v7,v8,G,rfl,b1,e1,e2,hG⟩ hT1 hq
   obtain⟨kw,hkw,rfl,rfl⟩:=gS hi
   rw[bc]at hq
   refine⟨T1,_,rfl,SqT.of AB,rfl,_,_,rfl,_,_,rfl,rfl,?_⟩
   refine⟨_,rfl,_,_,rfl,rfl,_,_,rfl,⟨by omega,by omega,by omega,by omega⟩,?_⟩
   have en:((f:Int)+1 - 1).toNat=f:=by omega
   rw[en]
   have s1:AK H' (upd H' T1 (.tup [.ref q,.int (kw.2:Nat)])):=.new hT1
   refine B6 (n:=f) (fun m σ H'=>∃(v7 v8:Option V) (G:Dm.Cs),σ=[some (.ref d),some (.int f),some (.int k),some (.bl g),some (.ref r),some (.ref q),some (.int (kw.2:Nat)),v7,v8]/\But d H H'/\H' d=some (.frz od (.dT (wV W)))/\H' r=some (.dT (wV G))/\H' q=some (.tup (nv kw.1))/\Dm.CJ f k g j W i m G)
    ⟨v7,v8,G,rfl,b1.trans s1.but,s1 _ _ e1,s1 _ _ e2,s1 _ _ hq,hG⟩ ?_ ?_
   ·rintro m σ H2 hm ⟨v7',v8',G2,rfl,b2,f1,f2,f3,hG2⟩
    have hl:=(hA.key kw (List.mem_of_getElem? hkw)).1
    have hl64:kw.1.length<=j:=by rw[hl];exact Nat.min_le_right _ _
    refine⟨_,rfl,_,rfl,(by show 1<=sizeLine;decide),fun p hp=>?_⟩
    have s2:AK H2 (upd H2 p (.tup [.int (1+(m:Int))])):=.new hp
    refine⟨q,p,_,_,rfl,rfl,SqT.of (s2 _ _ f3),SqT.of AB,(by simp),(by rw[Ar];show _+1<=_;omega),fun t H3 s3 ht=>?_⟩
    have et:nv kw.1++[V.int (1+(m:Int))]=nv (kw.1++[m+1]):=by
     unfold nv
     rw[List.map_append,List.map_append]
     show _=_++[V.int ((m+1:Nat):Int)]
     rw[show((m+1:Nat):Int)=1+(m:Int)by omega]
    rw[et]at ht
    refine⟨_,rfl,_,rfl,t,k,g,kw.1++[m+1],rfl,.inr ht,(by rw[List.length_append];show _+1<64;omega),fun hp3 H4 s4 _ e4=>?_⟩
    refine⟨hp3,_,rfl,.inl ⟨SqL.of e4,fun l hl=>?_⟩⟩
    have s5:=(s2.trans s3).trans (s4.trans (AK.new (o:=.tup (nv (Dm.hold g k (kw.1++[m+1])))) hl))
    have el:(upd H4 l (.tup (nv (Dm.hold g k (kw.1++[m+1]))))) l=some (.tup ((kk (Dm.hold g k (kw.1++[m+1]))).map kV)):=by rw[AB,bc]
    generalize upd H4 l (.tup (nv (Dm.hold g k (kw.1++[m+1]))))=H5 at s5 el
    refine⟨_,rfl,r,rfl,.inr ⟨_,.inl (s5 _ _ f2)⟩,_,rfl,_,Mu.t (s5 _ _ f2) el,?_⟩
    rw[jt]
    refine⟨_,rfl,_,_,rfl,rfl,_,rfl,_,rfl,r,_,rfl,ZI.t (s5 _ _ f2) el ?_,?_⟩
    ·rw[Xk]
     exact Nat.lt_of_le_of_lt (hG2.few hA (by omega)) hfew
    ·have ep:putK (wV G2) (kk (Dm.hold g k (kw.1++[m+1]))) (.int (((Dm.OC G2 (Dm.hold g k (kw.1++[m+1])):Nat):Int)+((kw.2:Nat):Int)))=wV (Dm.LQ G2 (Dm.hold g k (kw.1++[m+1])) (Dm.OC G2 (Dm.hold g k (kw.1++[m+1]))+kw.2)):=by
      rw[<-ju]
      push_cast
      rfl
     refine⟨_,_,_,rfl,?_,?_,AB.trans (congrArg (fun z=>some (HO.dT z)) ep),?_,hG2.step hA hkw hm⟩
     ·intro b o hb e
      have nb:b≠r:=fun z=>by rw[z,hr0]at e;cases e
      rw[AI nb]
      exact s5 _ _ (b2 b o hb e)
     ·rw[AI (Ne.symm hrd)];exact s5 _ _ f1
     ·have nq:q≠r:=Af (s5 _ _ f3) (s5 _ _ f2) (fun z=>nomatch z)
      rw[AI nq];exact s5 _ _ f3
   ·rintro σ H2 ⟨v7',v8',G2,rfl,b2,f1,f2,f3,hG2⟩
    exact⟨_,_,_,_,G2,rfl,b2,f1,f2,hG2.turn⟩
  ·rintro σ H' ⟨v5,v6,v7,v8,G,rfl,b1,e1,e2,hG⟩
   rw[Xk]at hG
   refine⟨e1,_,rfl,kk0 r _ G (fun b o e=>?_) (by rw[AI hrd];exact e2) (hG.done hA)⟩
   by_cases hb:b=d
   ·subst hb
    rw[AB,<-e,hd]
   ·rw[AI hb]
    exact b1 b o hb e
def eR (a:Ad):Sp:=fun vs H Q _=>∃(n f k:Nat) (g:Bool),vs=[.int n,.int f,.int k,.bl g]/\n<=5/\1<=f/\f<=100/\f ^ n<=10000/\k<=n/\
 ∀r H',AK H H'->DX a H' r (Vbrgag.keptDist {minus:=false,count:=n,faces:=f,keep:=k,best:=g})->Q (.ref r) H'
theorem Yo:AL ["dice","faces","kept","greatest","ways_of_held","die","counts","held","ways"] ["dice","faces","kept","greatest"] (AG HN):=⟨rfl,rfl,rfl,by decide +kernel,rfl,by decide +kernel,by decide +kernel⟩
theorem ba (hu:X.A.units+1<cLine):PE X (.Dict [some (.Tuple [] x1 p1)] [.Constant (.int n) j p2] pos) (Xf (ip DT) (tC (.int n))):=bK hu (LK AE) AH
theorem bb (hN:X.N.Nodup)(hi:X.N[i]? =some x)(hx:Loc X.env.scope x)(hu:X.A.units+1<cLine)(hf:X.fn x=true\/X.env.scope.names.lookup x=some .local):
  PS X (.Assign [.Name x p0] (.Dict [some (.Tuple [] x1 p1)] [.Constant (.int n) j p2] p3) pos) (N4 (Xf (ip DT) (tC (.int n))) (Eu i)):=by
 have h:=ba (X:=X) (x1:=x1) (n:=n) (j:=j) (p1:=p1) (p2:=p2) (pos:=p3) hu
 have hs:swapsWith (.Dict [some (.Tuple [] x1 p1)] [.Constant (.int n) j p2] p3) (some (.Name x p0)) pos.line X.env=pure false:=rfl
 generalize Expr.Dict [some (.Tuple [] x1 p1)] [.Constant (.int n) j p2] p3=e at h hs ⊢
 exact AN hN hi hx h hs hf
theorem eS (T:Tx K mg a):Fn P w K mg base CX0 3 a.Gm ["dice","faces","kept","greatest"] (eR a):=by
 obtain⟨fd,F,hb⟩:=T.RM
 refine F.fn hb Yo (fun vs H Q E h=>?_) (fun cdv A outer s H vs Q E hr h=>?_)
 ·obtain⟨n,f,k,g,rfl,_⟩:=h
  rfl
 ·obtain⟨n,f,k,g,rfl,hn,hf1,hf,hpow,hk,kk0⟩:=h
  have nd:=Yo.nd
  apply Exists.intro
  constructor
  ·show PSs _ (_::_) _
   with_reducible refine' AD ?q1 ?q2
   case q1=>
    with_reducible refine' bb (i:=4) ?h0 ?h1 ?h2 ?h3 ?h4
    case h0=>exact nd
    case h1=>exact rfl
    case h2=>exact Or.inl rfl
    case h3=>exact PB hr
    case h4=>exact Or.inr rfl
   case q2=>
    exact(AD (BD PassesOwn.never rfl (Bo rfl T.Cc (AA (pv 0) AE)) (AX (i:=5) nd rfl (Or.inl rfl))
    (AF (AN (i:=4) nd rfl (Or.inl rfl) (Ac (WC T) hr rfl T.Py AU (AA (pv 4) (AA (pv 1) (AA (pv 2) (AA (pv 3) AE))))))))
   (AD (AN (i:=6) nd rfl (Or.inl rfl) (AS XF (An (AA AH AE)) (AS Ba (AS Bm (AS BK (pv 2) (pv 1)) (pv 2)) AH)))
   (AD (Tr (BD PassesOwn.never rfl (Sl (pv 4)) (Hw rfl (BL (AX (i:=7) nd rfl (Or.inl rfl)) (BL (AX (i:=8) nd rfl (Or.inl rfl)) FC)))
    (AF (TY (pv 6) (AS Bm (AZ (d9 rfl) rfl T.SU My (AA (pv 7) AE)) (pv 2)) PN (pv 8) G6 set_list))))
   (AF (AO (Dv T.Fj (Bj T) hr rfl T.Fl AU (AA (pv 2) (AA (pv 6) AE))))))))
  have hs:sizeLine=16777216:=sizeLine_eq
  intro d hd0
  refine⟨(by show 0<=sizeLine;decide),fun q hq=>?_⟩
  refine⟨q,[],rfl,AB,by rw[AI (AM AB hq)];exact AB,?_⟩
  refine⟨_,rfl,(n:Int),rfl,(by omega),(by omega),?_⟩
  rw[Int.toNat_natCast]
  refine B6 (n:=n) (fun i σ H'=>∃(v5:Option V) (r:Addr) (W:Dm.Cs),σ=[some (.int n),some (.int f),some (.int k),some (.bl g),some (.ref r),v5,none,none,none]/\AK H H'/\H' r=some (.dT (wV W))/\Dm.After f k g i W)
   ⟨none,d,_,rfl,?_,AB,Dm.After.zero f k g⟩ ?_ ?_
  ·intro b o e
   have n1:b≠d:=AM e hd0
   have e1:(upd H d (.dT [])) b=some o:=by rw[AI n1];exact e
   rw[AI n1,AI (AM e1 hq)]
   exact e1
  ·rintro i σ H' hi ⟨v5,r,W,rfl,s1,e1,hA⟩
   refine⟨_,rfl,_,rfl,_,rfl,_,rfl,r,f,k,g,i,W,rfl,e1,hA,hf,(by omega),?_,fun r' H2 W' s2 e2 hA2=>⟨_,r',W',rfl,s1.trans s2,e2,hA2⟩⟩
   have:f ^ (i+1)<=f ^ n:=Nat.pow_le_pow_right hf1 (by omega)
   omega
  ·rintro σ H1 ⟨v5,d1,W,rfl,s1,e1,hA⟩
   refine⟨(by show 1<=sizeLine;decide),fun l hl=>?_⟩
   have kf:k*f<=5*100:=Nat.mul_le_mul (by omega) hf
   have kk1:k*1<=k*f:=Nat.mul_le_mul_left _ hf1
   have em:(k:Int)*(f:Int) - (k:Int)+1=((k*f - k+1:Nat):Int):=by
    have:((k*f:Nat):Int)=(k:Int)*(f:Int):=by push_cast;rfl
    omega
   have cw:CW (k:Int) (f:Int):=⟨10,10,by decide,by show k<_;omega,by show f<_;omega⟩
   refine⟨_,rfl,_,rfl,_,_,rfl,rfl,cw,_,rfl,_,_,rfl,rfl,_,_,rfl,rfl,l,_,_,rfl,rfl,AB,?_,?_,?_,fun m hm=>?_⟩
   ·rw[em];omega
   ·rw[em];omega
   ·rw[em];show 1*_<=_;omega
   rw[em,Int.toNat_natCast,WD]
   have s2:AK H1 (upd (upd H1 l (.lst [.int 0])) m (.lst (nv (List.replicate (k*f - k+1) 0)))):=(AK.new hl).trans (AK.new hm)
   have hm1:H1 m=none:=(AK.new hl).free hm
   have em0:(upd (upd H1 l (.lst [.int 0])) m (.lst (nv (List.replicate (k*f - k+1) 0)))) m=some (.lst (nv (List.replicate (k*f - k+1) 0))):=AB
   generalize upd (upd H1 l (.lst [.int 0])) m (.lst (nv (List.replicate (k*f - k+1) 0)))=H2 at s2 em0
   have hmd:m≠d1:=fun z=>by rw[z,e1]at hm1;cases hm1
   refine⟨d1,_,s2 _ _ e1,True.intro,fun od=>?_⟩
   refine⟨_,rfl,d1,od,_,rfl,AB,Pz (d:=d1) (o:=od) (kvs:=wV W)
    (fun i σ H'=>∃(v7 v8:Option V) (z:List Nat),σ=[some (.int n),some (.int f),some (.int k),some (.bl g),some (.ref d1),v5,some (.ref m),v7,v8]/\But d1 H1 H'/\H' d1=some (.frz od (.dT (wV W)))/\H' m=some (.lst (nv z))/\Dm.F7 (k*f - k+1) k W i z)
    ⟨none,none,_,rfl,s2.but.trans But.upd,AB,by rw[AI hmd];exact em0,Dm.F7.start _ _ _⟩ (fun i σ H' _ ⟨_,_,_,_,_,e,_⟩=>e) ?_ ?_⟩
   ·rintro i key v σ H' T1 q hi ⟨v7,v8,z,rfl,b1,f1,f2,hC⟩ hT1 hq
    obtain⟨kw,hkw,rfl,rfl⟩:=gS hi
    rw[bc]at hq
    refine⟨T1,_,rfl,SqT.of AB,rfl,_,_,rfl,_,_,rfl,rfl,?_⟩
    have s3:AK H' (upd H' T1 (.tup [.ref q,.int (kw.2:Nat)])):=.new hT1
    generalize upd H' T1 (.tup [.ref q,.int (kw.2:Nat)])=H3 at s3
    obtain⟨hkl,hkb⟩:=hA.key kw (List.mem_of_getElem? hkw)
    have hsb:=Dm.Hz kw.1 hkb
    rw[hkl,Nat.min_eq_left hk]at hsb
    have hfk:f*k=k*f:=Nat.mul_comm _ _
    have hlt:kw.1.sum - k<z.length:=by rw[hC.len];omega
    have ei:((kw.1.sum:Nat):Int) - (k:Int)=((kw.1.sum - k:Nat):Int):=by omega
    refine⟨_,rfl,_,rfl,q,_,rfl,SqT.of (s3 _ _ hq),_,rfl,_,_,rfl,rfl,m,_,kw.1.sum - k,_,rfl,?_,SqL.of (s3 _ _ f2),NN (getD_at hlt),_,rfl,_,_,rfl,rfl,m,_,_,kw.1.sum - k,rfl,rfl,s3 _ _ f2,?_,?_⟩
    ·rw[Ja];exact congrArg V.int ei
    ·rw[Ar,Ja,ei];exact T7 hlt
    ·refine⟨_,_,_,rfl,?_,?_,?_,hC.step hkw (by rw[<-hC.len];exact hlt)⟩
     ·intro b o hb e
      have nb:b≠m:=fun z=>by rw[z,hm1]at e;cases e
      rw[AI nb]
      exact s3 _ _ (b1 b o hb e)
     ·rw[AI (Ne.symm hmd)];exact s3 _ _ f1
     ·rw[AB]
      have:((z.getD (kw.1.sum - k) 0:Nat):Int)+((kw.2:Nat):Int)=((z.getD (kw.1.sum - k) 0+kw.2:Nat):Int):=by push_cast;rfl
      show some (HO.lst ((nv z).set (kw.1.sum - k) (V.int (((z.getD (kw.1.sum - k) 0:Nat):Int)+((kw.2:Nat):Int)))))=_
      rw[this,XU]
   ·rintro σ H' ⟨v7,v8,z,rfl,b1,f1,f2,hC⟩
    rw[Xk]at hC
    refine⟨f1,?_⟩
    have s4:AK H1 (upd H' d1 (.dT (wV W))):=fun b o e=>by
     by_cases hb:b=d1
     ·subst hb
      rw[AB,<-e,e1]
     ·rw[AI hb]
      exact b1 b o hb e
    have em4:(upd H' d1 (.dT (wV W))) m=some (.lst (nv z)):=by rw[AI hmd];exact f2
    generalize upd H' d1 (.dT (wV W))=H4 at s4 em4
    refine⟨_,rfl,_,rfl,?_⟩
    intro x dx nx ndx ne
    refine⟨x,dx,_,_,rfl,AB,fun H5 hx5 b5=>⟨rfl,?_⟩⟩
    have s5:AK H4 H5:=.init nx ndx b5
    refine kk0 x H5 (s1.trans (s4.trans s5)) ⟨m,⟨dx,hx5⟩,?_⟩
    rw[hA.counts hk hC.len hf1 (fun φ=>by rw[hC.val φ,List.take_length])]
    exact s5 _ _ em4
def UO (a:Ad):Sp:=fun vs H Q _=>∃x p,vs=[.ref x]/\Qn a H x p/\Dm.Fits p/\∀r H',AK H H'->DX a H' r (Dm.bare p)->Q (.ref r) H'
theorem UP:AL ["self"] ["self"] (AG HQ):=⟨rfl,rfl,rfl,by decide +kernel,rfl,by decide +kernel,by decide +kernel⟩
theorem Tv (T:Tx K mg a):Fn P w K mg base CX0 5 a.Gn ["self"] (UO a):=by
 obtain⟨fd,F,hb⟩:=T.RN
 refine F.fn hb UP (fun vs H Q E h=>?_) (fun cdv A outer s H vs Q E hr h=>?_)
 ·obtain⟨x,p,rfl,_⟩:=h
  rfl
 ·obtain⟨x,p,rfl,hD,hF,k⟩:=h
  have hz:=hD.no
  obtain⟨dx,hx⟩:=hD.fit hF
  obtain⟨h1,h2,h3,h4,h5,h6,h7,h8⟩:=hF.dice hz
  refine⟨_,AD (BR (Ag DC (AJ (pv 0) rfl) (AJ (pv 0) rfl) (Am _)) (AF (AO (Ac (RO T) hr rfl T.UQ AU (AA (AJ (pv 0) rfl) (AA (AJ (pv 0) rfl) AE))))) Al)
   (AF (AO (Ac (eS T) hr rfl T.RP AU (AA (AJ (pv 0) rfl) (AA (AJ (pv 0) rfl) (AA (AJ (pv 0) rfl) (AA (AJ (pv 0) rfl) AE))))))),?_⟩
  have f1:Gives (Bq K (Ae 0) "kept") ([some (.ref x)]:L2.St) H (.int p.keep):=A9 (AQ rfl) hx T.Bn T.Dl rfl
  have f2:Gives (Bq K (Ae 0) "dice") ([some (.ref x)]:L2.St) H (.int p.count):=A9 (AQ rfl) hx T.Bn T.Dk rfl
  have f3:Gives (Bq K (Ae 0) "faces") ([some (.ref x)]:L2.St) H (.int p.faces):=A9 (AQ rfl) hx T.Bn T.Dx rfl
  have f4:Gives (Bq K (Ae 0) "greatest") ([some (.ref x)]:L2.St) H (.bl p.best):=A9 (AQ rfl) hx T.Bn T.DK rfl
  refine sq_ (BN f1 f2 (BY (fun e=>?_) (fun e=>?_)))
  ·have e:(p.keep:Int)=p.count:=of_decide_eq_true e
   have e':p.keep=p.count:=by omega
   refine fn_ (AV f2 (AV f3 (Bi ⟨p.count,p.faces,rfl,h2,by omega,h4,fun r H' s' q=>k r H' s' ?_⟩)))
   unfold Dm.bare
   rw[if_neg hz,if_pos e']
   exact q
  ·have e:¬(p.keep:Int)=p.count:=fun z=>e (decide_eq_true z)
   have e':p.keep≠p.count:=by omega
   have h9:p.count<=5/\p.faces ^ p.count<=10000:=h8.elim (fun z=>absurd z e') id
   refine nx_ (fn_ (AV f2 (AV f3 (AV f1 (AV f4 (Bi ⟨p.count,p.faces,p.keep,p.best,rfl,h9.1,by omega,h4,h9.2,h7,fun r H' s' q=>k r H' s' ?_⟩))))))
   unfold Dm.bare
   rw[if_neg hz,if_neg e']
   exact q
end
theorem UH (l:List Int)(k:Nat):(iv l).take k=iv (l.take k):=by unfold iv;rw[List.map_take]
theorem UI (l:List Int)(k:Nat):(iv l).drop k=iv (l.drop k):=by unfold iv;rw[List.map_drop]
theorem Od (l:List Int):(iv l).all GG=true:=by
 unfold iv
 rw[List.all_map]
 exact List.all_eq_true.mpr fun x _=>rfl
theorem Hu (a b:Int):eqV (.int a) (.int b)=decide (a=b):=by
 show(a == b)=_
 rw[Bool.beq_eq_decide_eq]
theorem gK (c:Int)(l:List Int):inV (.int c) (iv l)=decide (c∈l):=by
 unfold inV iv
 rw[List.any_map]
 induction l with
 |nil=>rfl
 |cons x r ih=>
  rw[List.any_cons,ih]
  show(eqV (.int x) (.int c)||_)=_
  rw[Hu]
  by_cases h:x=c
  ·simp[h]
  ·simp[h,Ne.symm h]
theorem Yk (c:Int):∀(l:List Int),c∈l->l.take (Dm.cutAt c l).1.length=(Dm.cutAt c l).1/\l.drop ((Dm.cutAt c l).1.length+1)=(Dm.cutAt c l).2/\l[(Dm.cutAt c l).1.length]? =some c/\∀m z,m<(Dm.cutAt c l).1.length->l[m]? =some z->z≠c:=fun l h=>by
 obtain⟨e,hn⟩:=Dm.Pp c l h
 generalize(Dm.cutAt c l).1=x at e hn
 generalize(Dm.cutAt c l).2=y at e
 subst e
 refine⟨List.take_left,?_,?_,fun m z hm hz e=>hn ?_⟩
 ·rw[show x.length+1=x.length+1 from rfl,<-List.drop_drop,List.drop_left]
  rfl
 ·rw[List.getElem?_append_right (Nat.le_refl _),Nat.sub_self]
  rfl
 ·rw[List.getElem?_append_left hm]at hz
  rw[<-e]
  exact List.mem_of_getElem? hz
theorem bH {row:List Int}{i:Nat}{c:Int}(h:row[i]? =some c):(row.take (i+1)).foldl (fun n c=>10*n+(c - 48)) (0:Int)=((row.take i).foldl (fun n c=>10*n+(c - 48)) (0:Int))*10+c - 48:=by
 rw[List.take_add_one,h,List.foldl_append]
 show 10*_+(c - 48)=_
 omega
theorem LS:∀(row:List Int) (z:Int),0<=z->row.all Vbrgag.isDigit=true->0<=row.foldl (fun n c=>10*n+(c - 48)) z
 |[],z,h,_=>h
 |c::r,z,h,hd=>by
  rw[List.all_cons,Bool.and_eq_true]at hd
  have hc:=hd.1
  unfold Vbrgag.isDigit at hc
  rw[Bool.and_eq_true,decide_eq_true_eq,decide_eq_true_eq]at hc
  rw[List.foldl_cons]
  exact LS r _ (by omega) hd.2
section
variable {P:Program}{w:World}{K:PySem.W.Frag}{mg:Str->Option Value}{base:Heap}{a:Ad}
def jV (a:Ad):Sp:=fun vs H Q E=>∃r row,vs=[.ref r]/\H r=some (.lst (iv row))/\(Dm.CK row=none->E (.ref a.Br) none H)/\(∀n:Nat,Dm.CK row=some n->n<1000->Q (.int n) H)
theorem bI:AL ["row","number","byte"] ["row"] (AG HF):=⟨rfl,rfl,rfl,by decide +kernel,rfl,by decide +kernel,by decide +kernel⟩
theorem Xe (h:¬(1<=row.length/\row.length<=3/\¬(1<row.length/\row.head? =some 48)/\row.all Vbrgag.isDigit=true)):Dm.CK row=none:=by unfold Dm.CK;rw[if_neg h]
theorem M9:∀(row:List Int) (z:Int),row.all Vbrgag.isDigit=true->0<=z->row.foldl (fun n c=>10*n+(c - 48)) z<=z*10 ^ row.length+(10 ^ row.length - 1)
 |[],z,_,_=>by simp
 |c::r,z,hd,hz=>by
  rw[List.all_cons,Bool.and_eq_true]at hd
  have hc:=hd.1
  unfold Vbrgag.isDigit at hc
  rw[Bool.and_eq_true,decide_eq_true_eq,decide_eq_true_eq]at hc
  rw[List.foldl_cons]
  have:=M9 r (10*z+(c - 48)) hd.2 (by omega)
  rw[List.length_cons,Int.pow_succ]
  have h1:(10*z+(c - 48))*10 ^ r.length<=(10*z+9)*10 ^ r.length:=Int.mul_le_mul_of_nonneg_right (by omega) (by exact Int.le_of_lt (Int.pow_pos (by decide)))
  have h2:(10*z+9)*10 ^ r.length=z*(10 ^ r.length*10)+9*10 ^ r.length:=by
   rw[Int.add_mul,Int.mul_comm 10 z,Int.mul_assoc,Int.mul_comm 10 (10 ^ r.length)]
  omega
theorem bJ:∀{n:Nat},n<=3->(10:Int) ^ n<=10 ^ 3
 |0,_=>by decide
 |1,_=>by decide
 |2,_=>by decide
 |3,_=>by decide
 |n+4,h=>absurd h (by omega)
theorem Pq (T:Tx K mg a):Fn P w K mg base (CXR P w) 1 a.Gh ["row"] (jV a):=by
 obtain⟨fd,F,hb⟩:=T.RI
 obtain⟨tz,hz⟩:=T.jW
 obtain⟨tn,hn⟩:=T.jX
 refine F.fnR hb bI (fun vs H Q E h=>?_) (fun cdv A outer s H vs Q E hr h=>?_)
 ·obtain⟨r,row,rfl,_⟩:=h
  rfl
 ·obtain⟨r,row,rfl,hrow,k1,k2⟩:=h
  have nd:=bI.nd
  refine⟨_,AD (BR (JM (Ew EK EK AH (AZ Ai rfl T.EJ CU (AA (pv 0) AE)) AH)) (AF (BW CY rfl rfl T.CS T.Bp)) Al)
   (AD (BR (PW.pt (W2 (Ag Ih (AZ Ai rfl T.EJ CU (AA (pv 0) AE)) AH (Am _)) (TX (Ag DC (Aa AR (pv 0) AH (fun _ _=>rfl)) (A6 (v:=.int 48) rfl hz ⟨tz,rfl⟩) (Am _))))) (AF (BW CY rfl rfl T.CS T.Bp)) Al)
   (AD (AN (i:=1) nd rfl (Or.inl rfl) AH)
   (AD (BD VC rfl (Cz (pv 0)) (AX (i:=2) nd rfl (Or.inl rfl))
    (AD (BR (JM (Ew EK EK (A6 (v:=.int 48) rfl hz ⟨tz,rfl⟩) (pv 2) (A6 (v:=.int 57) rfl hn ⟨tn,rfl⟩))) (AF (BW CY rfl rfl T.CS T.Bp)) Al)
    (AF (AN (i:=1) nd rfl (Or.inl rfl) (AS Bm (AS Ba (AS BK (pv 1) AH) (pv 2)) (A6 (v:=.int 48) rfl hz ⟨tz,rfl⟩))))))
   (AF (AO (pv 1)))))),?_⟩
  have hlen:∀σ:L2.St,σ[0]? =some (some (.ref r))->Gives (tCB (fun xs H Q=>∃p ys,xs=[.ref p]/\(SqL K H p ys\/SqT K H p ys)/\Q (.int ys.length) H) (CG (Ae 0) DT)) σ H (.int ((iv row).length:Nat)):=fun σ e=>Mi (AQ e) (SqL.of hrow)
  refine sq_ (Fz Ax (hlen _ rfl) Ax (BY (fun h1=>?_) (fun h1=>?_)))
  ·refine k1 (Xe fun⟨a1,a2,_⟩=>?_)
   rw[Ay,Bool.not_eq_true',Bool.and_eq_false_iff,decide_eq_false_iff_not,decide_eq_false_iff_not]at h1
   omega
  have h1:(1:Int)<=row.length/\(row.length:Int)<=3:=by
   rw[Ay]at h1
   simpa using h1
  have dec:∀x:Int,Vbrgag.isDigit x=(decide (48<=x)&&decide (x<=57)):=fun _=>rfl
  have loop:¬(1<row.length/\row.head? =some 48)->Qv (N4 (tC (.int 0)) (Eu 1)) (Qv (iO (aE K (Ae 0)) (Eu 2) (Qv (aF (j4 (Ii (W7 (rI0 fun i j=>.bl (decide (i<=j))) (rI0 fun i j=>.bl (decide (i<=j))) (tC (.int 48)) (Ae 2) (tC (.int 57))))) (Wq a.Br E) Rw)
    (N4 (tOp (rI0 fun i j=>.int (i - j)) (tOp (rI0 fun i j=>.int (i+j)) (tOp (rI CW fun i j=>.int (i*j)) (Ae 1) (tC (.int 10))) (Ae 2)) (tC (.int 48))) (Eu 1)))) (Ql (Ae 1))) {nx:=fun _ H'=>Q .non H',rt:=Q} [some (.ref r),none,none] H:=fun hh=>by
   refine sq_ (E2 Ax (sq_ ?_))
   refine⟨_,rfl,r,rfl,⟨_,SqL.of hrow⟩,Dr (K:=K) (a:=r) (xs:=iv row) (fun i σ H'=>∃v:Option V,σ=[some (.ref r),some (.int ((row.take i).foldl (fun n c=>10*n+(c - 48)) (0:Int))),v]/\H'=H/\(row.take i).all Vbrgag.isDigit=true) ⟨none,rfl,rfl,rfl⟩ (fun i σ H' _ ⟨_,_,e,_⟩=>by rw[e];exact SqL.of hrow) ?_ ?_⟩
   ·rintro i x σ H' hi ⟨v,rfl,rfl,hall⟩
    obtain⟨c,hc,rfl⟩:=SS hi
    refine sq_ (Fz Ax (AQ rfl) Ax (BY (fun h3=>?_) (fun h3=>?_)))
    ·refine k1 (Xe fun⟨_,_,_,a4⟩=>?_)
     have:=List.all_eq_true.mp a4 c (List.mem_of_getElem? hc)
     rw[dec]at this
     rw[this]at h3
     cases h3
    ·have h3:Vbrgag.isDigit c=true:=by
      rw[dec]
      simpa using h3
     have hnn:=LS (row.take i) 0 (by decide) hall
     have hsm:=M9 (row.take i) 0 hall (by decide)
     have hi3:(row.take i).length<=3:=by rw[List.length_take];omega
     have hp:(10:Int) ^ (row.take i).length<=10 ^ 3:=bJ hi3
     have e10:(10:Int) ^ 3=1000:=rfl
     refine nx_ (E2 (v:=.int _) (YS (g:=fun i j=>V.int (i - j)) (YS (g:=fun i j=>V.int (i+j)) (T3 (g:=fun i j=>V.int (i*j)) (AQ rfl) Ax ⟨20,4,by decide,?_,by decide⟩) (AQ rfl)) Ax) ⟨some (.int c),?_,rfl,?_⟩)
     ·rw[bH hc]
      rfl
     ·rw[List.take_add_one,hc,List.all_append,hall]
      show(true&&(Vbrgag.isDigit c&&true))=true
      rw[h3]
      rfl
     ·generalize(row.take i).foldl (fun n c=>10*n+(c - 48)) (0:Int)=z at hnn hsm
      omega
   ·rintro σ H' ⟨v,rfl,rfl,hall⟩
    rw[Ay,List.take_length]at hall ⊢
    have hnn:=LS row 0 (by decide) hall
    have hsm:=M9 row 0 hall (by decide)
    have hp:(10:Int) ^ row.length<=10 ^ 3:=bJ (by omega)
    have e10:(10:Int) ^ 3=1000:=rfl
    have em:Dm.CK row=some (Vbrgag.valueOf row):=by unfold Dm.CK;rw[if_pos ⟨by omega,by omega,hh,hall⟩]
    have ev:((Vbrgag.valueOf row:Nat):Int)=row.foldl (fun n c=>10*n+(c - 48)) (0:Int):=by unfold Vbrgag.valueOf;omega
    refine lT (AQ rfl) ?_
    rw[<-ev]
    exact k2 _ em (by omega)
  refine nx_ (sq_ (CZ (hlen _ rfl) Ax (BY (fun h2=>?_) (fun h2=>?_))))
  ·have h2:(1:Int)<((iv row).length:Nat):=of_decide_eq_true h2
   rw[Ay]at h2
   obtain⟨c,rr,rfl⟩:∃c rr,row=c::rr:=by
    cases row with
    |nil=>simp at h2
    |cons c rr=>exact⟨c,rr,rfl⟩
   refine BN (Fc (n:=0) (v:=.int c) (AQ rfl) Ax (SqL.of hrow) rfl) Ax (BY (fun h3=>?_) (fun h3=>?_))
   ·have h3:c=48:=of_decide_eq_true h3
    subst h3
    exact k1 (Xe fun⟨_,_,a3,_⟩=>a3 ⟨by omega,rfl⟩)
   ·have h3:¬c=48:=fun z=>h3 (decide_eq_true z)
    exact nx_ (loop fun⟨_,z⟩=>h3 (Option.some.inj z))
  ·have h2:¬(1:Int)<((iv row).length:Nat):=fun z=>h2 (decide_eq_true z)
   rw[Ay]at h2
   exact N6 (nx_ (loop fun⟨z,_⟩=>by omega))
def BU (a:Ad)(C:Addr)(H:Hp)(E:XK):Prop:=∀H',AK H H'->E (.ref C) none H'
theorem BU.same {C:Addr}{H H':Hp}{E:XK}(h:BU a C H E)(s:AK H H'):BU a C H' E:=fun H2 s2=>h H2 (s.trans s2)
def FY (a:Ad)(o:Option Vbrgag.Part)(H:Hp)(Q:VK)(E:XK):Prop:=(o=none->BU a a.Br H E)/\∀p,o=some p->∀x H',AK H H'->C6 a H' x p->Q (.ref x) H'
theorem FY.same {o:Option Vbrgag.Part}{H H':Hp}{Q:VK}{E:XK}(h:FY a o H Q E)(s:AK H H'):FY a o H' Q E:=⟨fun e=>(h.1 e).same s,fun p e x H2 s2 q=>h.2 p e x H2 (s.trans s2) q⟩
def sgI (m:Bool):Int:=if m=true then -1 else 1
def Wc (a:Ad):Sp:=fun vs H Q E=>∃(m:Bool) (n:Nat) (r:Addr) (row:List Int),vs=[.int (sgI m),.int n,.ref r]/\H r=some (.lst (iv row))/\row.length<=1000/\FY a (Dm.Gi m n row) H Q E
theorem Wd:AL ["sign","dice","behind","letter","place","faces","kept"] ["sign","dice","behind"] (AG J0):=⟨rfl,rfl,rfl,by decide +kernel,rfl,by decide +kernel,by decide +kernel⟩
theorem Yt {H H2:Hp}{x dx:Addr}{m:Bool}{n f k:Nat}{g:Bool}(hx:H2 x=some (.ins a.Dt dx [("sign",.int (sgI m)),("dice",.int n),("faces",.int f),("kept",.int k),("greatest",.bl g)])):
  C6 a H2 x {minus:=m,count:=n,faces:=max 1 f,keep:=k,best:=g}:=.inr ⟨f,rfl,dx,hx⟩
theorem cT {m:Bool}{n:Nat}{row:List Int}{c:Int}(hc:c=107\/(c=108/\107∉row))(hm:c∈row):Dm.Gi m n row=match Dm.CK (Dm.cutAt c row).1 with
  |none=>none
  |some f=>match Dm.CK (Dm.cutAt c row).2 with
   |none=>none
   |some k=>some {minus:=m,count:=n,faces:=max 1 f,keep:=k,best:=decide (c=107)}:=by
 unfold Dm.Gi
 rcases hc with rfl|⟨rfl,h⟩
 ·rw[if_pos hm]
  rfl
 ·rw[if_neg h,if_pos hm]
  rfl
theorem cU {m:Bool}{n:Nat}{row:List Int}(h1:107∉row)(h2:108∉row):Dm.Gi m n row=match Dm.CK row with
  |none=>none
  |some f=>some {minus:=m,count:=n,faces:=max 1 f,keep:=n,best:=true}:=by
 unfold Dm.Gi
 rw[if_neg h1,if_neg h2]
 all_goals rfl
theorem cV (T:Tx K mg a):Fn P w K mg base (CXR P w) 3 a.Kd ["sign","dice","behind"] (Wc a):=by
 obtain⟨fd,F,hb⟩:=T.WM
 obtain⟨tk,hk⟩:=T.Xr
 obtain⟨tl,hl⟩:=T.Xs
 refine F.fnR hb Wd (fun vs H Q E h=>?_) (fun cdv A outer s H vs Q E hr h=>?_)
 ·obtain⟨m,n,r,row,rfl,_⟩:=h
  rfl
 ·obtain⟨m,n,r,row,rfl,hrow,hlen,G⟩:=h
  have nd:=Wd.nd
  refine⟨_,AD (BD VC rfl (ig (LK (AA (A6 (v:=.int 107) rfl hk ⟨tk,rfl⟩) (AA (A6 (v:=.int 108) rfl hl ⟨tl,rfl⟩) AE)))) (AX (i:=3) nd rfl (Or.inl rfl))
    (AF (BR (Ag ZE (pv 3) (pv 2) (by with_unfolding_all rfl))
     (AD (AN (i:=4) nd rfl (Or.inl rfl) (DD PySem.F.plainAttrs_list PySem.F.slot_list_index PySem.F.type_list_index Oj (pv 2) (AA (pv 3) AE)))
     (AD (AN (i:=5) nd rfl (Or.inl rfl) (Ac (Pq T) hr rfl T.DI (C5 (E':=E) fun _ _ _ h=>h) (AA (Dy FD (pv 2) GQ (Ek (pv 4))) AE)))
     (AD (AN (i:=6) nd rfl (Or.inl rfl) (Ac (Pq T) hr rfl T.DI (C5 (E':=E) fun _ _ _ h=>h) (AA (Dy FD (pv 2) (Ek (AS Ba (pv 4) AH)) GQ) AE)))
     (AF (AO (Dv T.bz (Lr T) hr rfl T.b9 Bv (AA (pv 0) (AA (pv 1) (AA (pv 5) (AA (pv 6) (AA (Lq DC (pv 3) (A6 (v:=.int 107) rfl hk ⟨tk,rfl⟩) (Am _)) AE))))))))))) Al)))
   (AF (AO (Dv T.bz (Lr T) hr rfl T.b9 Bv (AA (pv 0) (AA (pv 1) (AA (Ac (Pq T) hr rfl T.DI (C5 (E':=E) fun _ _ _ h=>h) (AA (pv 2) AE)) (AA (pv 1) (AA R0 AE)))))))),?_⟩
  refine⟨(by show 2<=sizeLine;decide),fun q hq=>⟨q,rfl,⟨_,SqT.of AB⟩,?_⟩⟩
  have s1:AK H (upd H q (.tup [.int 107,.int 108])):=.new hq
  have eq1:(upd H q (.tup [.int 107,.int 108])) q=some (.tup [.int 107,.int 108]):=AB
  generalize upd H q (.tup [.int 107,.int 108])=H1 at s1 eq1
  have hrow1:=s1 _ _ hrow
  have G1:=G.same s1
  have hs:sizeLine=16777216:=sizeLine_eq
  refine dC (K:=K) (a:=q) (xs:=[V.int 107,V.int 108]) (fun i σ H'=>∃v:Option V,σ=[some (.int (sgI m)),some (.int n),some (.ref r),v,none,none,none]/\H'=H1/\(0<i->107∉row)/\(1<i->108∉row))
   ⟨none,rfl,rfl,fun h=>absurd h (by omega),fun h=>absurd h (by omega)⟩ (fun i σ H' _ ⟨_,_,e,_⟩=>by rw[e];exact SqT.of eq1) ?_ ?_
  ·rintro i x σ H' hi ⟨v,rfl,rfl,h1,h2⟩
   obtain⟨c,rfl,hc,hnext⟩:∃c:Int,x=.int c/\(c=107\/(c=108/\107∉row))/\(c∉row->(0<i+1->107∉row)/\(1<i+1->108∉row)):=by
    match i,hi with
    |0,hi=>exact⟨107,(Option.some.inj hi).symm,.inl rfl,fun h=>⟨fun _=>h,fun z=>absurd z (by omega)⟩⟩
    |1,hi=>exact⟨108,(Option.some.inj hi).symm,.inr ⟨rfl,h1 (by omega)⟩,fun h=>⟨fun _=>h1 (by omega),fun _=>h⟩⟩
    |i+2,hi=>simp at hi
   refine⟨_,rfl,_,rfl,r,_,rfl,.inl (SqL.of hrow1),rfl,Od row,_,rfl,?_⟩
   rw[gK]
   refine BY (fun h3=>?_) (fun h3=>?_)
   ·have h3:c∈row:=of_decide_eq_true h3
    obtain⟨p1,p2,p3,p4⟩:=Yk c row h3
    rw[cT hc h3]at G1
    have lc:(Dm.cutAt c row).1.length<row.length:=(List.getElem?_eq_some_iff.mp p3).1
    generalize(Dm.cutAt c row).1=x1 at p1 p2 p3 p4 G1 lc
    generalize(Dm.cutAt c row).2=x2 at p2 G1
    refine⟨_,rfl,.inl ⟨rfl,_,SqL.of hrow1⟩,_,rfl,r,_,_,x1.length,.int c,rfl,rfl,SqL.of hrow1,rfl,Od row,SQ p3,by rw[Hu];exact decide_eq_true rfl,?_,?_⟩
    ·intro j z hj hz
     obtain⟨y,hy,rfl⟩:=SS hz
     rw[Hu]
     exact decide_eq_false (p4 j y hj hy)
    ·refine⟨_,rfl,_,rfl,_,rfl,r,_,rfl,SqL.of hrow1,fun pa hpa=>⟨pa,x1,rfl,?_,fun e0=>?_,fun f ef hf=>?_⟩⟩
     ·have e:=MH (iv row) x1.length
      rw[UH,p1]at e
      exact AB.trans (congrArg (fun z=>some (HO.lst z)) e)
     ·rw[e0]at G1
      exact G1.1 rfl _ (.new hpa)
     have s2:AK H' (upd H' pa (.lst (Kj (iv row) none (some (x1.length:Int))))):=.new hpa
     generalize upd H' pa (.lst (Kj (iv row) none (some (x1.length:Int))))=H2 at s2
     refine⟨_,rfl,_,rfl,_,_,rfl,rfl,_,rfl,r,_,rfl,SqL.of (s2 _ _ hrow1),fun pb hpb=>⟨pb,x2,rfl,?_,fun e0=>?_,fun k ek hk'=>?_⟩⟩
     ·have e:=MI (iv row) (x1.length+1)
      rw[UI,p2]at e
      exact AB.trans (congrArg (fun z=>some (HO.lst z)) e)
     ·rw[ef,e0]at G1
      exact G1.1 rfl _ (s2.trans (.new hpb))
     rw[ef,ek]at G1
     have s3:=s2.trans (AK.new (o:=.lst (Kj (iv row) (some ((x1.length:Int)+1)) none)) hpb)
     generalize upd H2 pb (.lst (Kj (iv row) (some ((x1.length:Int)+1)) none))=H3 at s3
     refine mk_ (AV (AQ rfl) (AV (AQ rfl) (AV (AQ rfl) (AV (AQ rfl) (AV (lu (AQ rfl) Ax) (Bi ?_))))))
     intro x dx nx ndx ne
     exact⟨x,dx,_,_,_,_,_,rfl,AB,fun H4 hx4 b4=>⟨rfl,G1.2 _ rfl x H4 (s3.trans (AK.init nx ndx b4)) (Yt (H:=H4) hx4)⟩⟩
   ·have h3:c∉row:=fun z=>h3 (decide_eq_true z)
    exact⟨_,rfl,rfl,hnext h3⟩
  ·rintro σ H' ⟨v,rfl,rfl,h1,h2⟩
   rw[cU (h1 (by show 0<2;decide)) (h2 (by show 1<2;decide))]at G1
   refine⟨_,rfl,_,rfl,_,rfl,r,row,rfl,hrow1,fun e0=>?_,fun f ef hf=>?_⟩
   ·rw[e0]at G1
    exact G1.1 rfl _ (AK.refl _)
   ·rw[ef]at G1
    refine⟨_,rfl,?_⟩
    intro x dx nx ndx ne
    exact⟨x,dx,_,_,_,_,_,rfl,AB,fun H4 hx4 b4=>⟨rfl,G1.2 _ rfl x H4 (AK.init nx ndx b4) (Yt (H:=H4) hx4)⟩⟩
def Vl (a:Ad):Sp:=fun vs H Q E=>∃(m:Bool) (r:Addr) (row:List Int),vs=[.int (sgI m),.ref r]/\H r=some (.lst (iv row))/\row.length<=1000/\FY a (Dm.GY m row) H Q E
theorem We:AL ["sign","row","place","dice"] ["sign","row"] (AG J3):=⟨rfl,rfl,rfl,by decide +kernel,rfl,by decide +kernel,by decide +kernel⟩
theorem Vk (T:Tx K mg a):Fn P w K mg base (CXR P w) 4 a.Ke ["sign","row"] (Vl a):=by
 obtain⟨fd,F,hb⟩:=T.WO
 obtain⟨td,hd⟩:=T.Xq
 refine F.fnR hb We (fun vs H Q E h=>?_) (fun cdv A outer s H vs Q E hr h=>?_)
 ·obtain⟨m,r,row,rfl,_⟩:=h
  rfl
 ·obtain⟨m,r,row,rfl,hrow,hlen,G⟩:=h
  have nd:=We.nd
  refine⟨_,AD (BR (Ag Tp (A6 (v:=.int 100) rfl hd ⟨td,rfl⟩) (pv 1) (by with_unfolding_all rfl))
    (AF (AO (Dv T.bw (O0 T) hr rfl T.bx Bv (AA (pv 0) (AA (Ac (Pq T) hr rfl T.DI (C5 (E':=E) fun _ _ _ h=>h) (AA (pv 1) AE)) AE))))) Al)
   (AD (AN (i:=2) nd rfl (Or.inl rfl) (DD PySem.F.plainAttrs_list PySem.F.slot_list_index PySem.F.type_list_index Oj (pv 1) (AA (A6 (v:=.int 100) rfl hd ⟨td,rfl⟩) AE)))
   (AD (AN (i:=3) nd rfl (Or.inl rfl) AH)
   (AD (BR (Ag Ih (pv 2) AH (Am _)) (AF (AN (i:=3) nd rfl (Or.inl rfl) (Ac (Pq T) hr rfl T.DI (C5 (E':=E) fun _ _ _ h=>h) (AA (Dy FD (pv 1) GQ (Ek (pv 2))) AE)))) Al)
   (AF (AO (Ac (cV T) hr rfl T.WN (C5 (E':=E) fun _ _ _ h=>h) (AA (pv 0) (AA (pv 3) (AA (Dy FD (pv 1) (Ek (AS Ba (pv 2) AH)) GQ) AE))))))))),?_⟩
  refine⟨_,rfl,r,_,rfl,.inl (SqL.of hrow),rfl,Od row,_,rfl,?_⟩
  have ein:(if true=true then !inV (.int 100) (iv row)else inV (.int 100) (iv row))= !decide (100∈row):=by rw[if_pos rfl,gK]
  rw[ein]
  refine BY (fun h3=>?_) (fun h3=>?_)
  ·have h3:100∉row:=by simpa using h3
   unfold Dm.GY at G
   rw[if_neg h3]at G
   refine⟨_,rfl,_,rfl,r,row,rfl,hrow,fun e0=>?_,fun f ef hf=>?_⟩
   ·rw[e0]at G
    exact G.1 rfl _ (AK.refl _)
   ·rw[ef]at G
    intro x dx nx ndx ne
    exact⟨x,dx,_,_,rfl,AB,fun H4 hx4 b4=>⟨rfl,G.2 _ rfl x H4 (AK.init nx ndx b4) (.inl ⟨rfl,rfl,rfl,dx,hx4⟩)⟩⟩
  ·have h3:(100:Int)∈row:=by simpa using h3
   obtain⟨p1,p2,p3,p4⟩:=Yk 100 row h3
   unfold Dm.GY at G
   rw[if_pos h3]at G
   have lc:(Dm.cutAt 100 row).1.length<row.length:=(List.getElem?_eq_some_iff.mp p3).1
   generalize(Dm.cutAt 100 row).1=x1 at p1 p2 p3 p4 G lc
   generalize(Dm.cutAt 100 row).2=x2 at p2 G
   have l2:x2.length<=1000:=by rw[<-p2,List.length_drop];omega
   refine nx_ ?_
   refine⟨_,rfl,.inl ⟨rfl,_,SqL.of hrow⟩,r,_,_,x1.length,.int 100,rfl,rfl,SqL.of hrow,rfl,Od row,SQ p3,by rw[Hu];exact decide_eq_true rfl,?_,?_⟩
   ·intro j z hj hz
    obtain⟨y,hy,rfl⟩:=SS hz
    rw[Hu]
    exact decide_eq_false (p4 j y hj hy)
   have last:∀(n:Nat) (H2:Hp),AK H H2->FY a (Dm.Gi m n x2) H Q E->Ql (tFn (Wc a) E (CG (Ae 0) (CG (Ae 3) (CG (tSl (dR K) (Ae 1) (YE (tOp (rI0 fun i j=>.int (i+j)) (Ae 2) (tC (.int 1)))) OY) DT)))) {nx:=fun _ H'=>Q .non H',rt:=Q} [some (.int (sgI m)),some (.ref r),some (.int (x1.length:Nat)),some (.int n)] H2:=fun n H2 s2 G2=>by
    refine⟨_,rfl,_,rfl,_,rfl,_,rfl,_,_,rfl,rfl,_,rfl,r,_,rfl,SqL.of (s2 _ _ hrow),fun pb hpb=>⟨m,n,pb,x2,rfl,?_,l2,G2.same (s2.trans (.new hpb))⟩⟩
    have e:=MI (iv row) (x1.length+1)
    rw[UI,p2]at e
    exact AB.trans (congrArg (fun z=>some (HO.lst z)) e)
   refine sq_ (E2 Ax (sq_ (CZ (AQ rfl) Ax (BY (fun h4=>?_) (fun h4=>?_)))))
   ·have h4:(0:Int)<(x1.length:Nat):=of_decide_eq_true h4
    rw[if_neg (show ¬x1=[]from fun z=>by rw[z]at h4;simp at h4)]at G
    refine⟨_,rfl,_,rfl,_,rfl,r,_,rfl,SqL.of hrow,fun pa hpa=>⟨pa,x1,rfl,?_,fun e0=>?_,fun f ef hf=>?_⟩⟩
    ·have e:=MH (iv row) x1.length
     rw[UH,p1]at e
     exact AB.trans (congrArg (fun z=>some (HO.lst z)) e)
    ·rw[e0]at G
     exact G.1 rfl _ (.new hpa)
    ·rw[ef]at G
     exact last f _ (.new hpa) G
   ·have h4:¬(0:Int)<(x1.length:Nat):=fun z=>h4 (decide_eq_true z)
    rw[if_pos (List.length_eq_zero_iff.mp (by omega))]at G
    exact nx_ (last 1 H (AK.refl H) G)
end
theorem pim (r:Paired F l m)(f:∀a b,F a b->G a b):Paired G l m:=L2.Paired.dA r f
theorem GK {α β:Type}{F:α->β->Prop}{x:α}{y:β}(h:F x y):∀{l:List α}{m:List β},Paired F l m->Paired F (l++[x]) (m++[y])
 |[],[],.nil=>.cons h .nil
 |_::_,_::_,.cons h' r=>.cons h' (GK h r)
def Bb (a:Ad)(H:Hp)(l:Addr)(ps:List Vbrgag.Part):Prop:=∃as:List Addr,H l=some (.lst (as.map V.ref))/\Paired (fun x p=>C6 a H x p) as ps
theorem Bb.same (h:Bb a H l ps)(s:AK H H'):Bb a H' l ps:=by
 obtain⟨as,e,p⟩:=h
 exact⟨as,s _ _ e,pim p fun x q h=>h.same s⟩
theorem C6.put (h:C6 a H x p)(e:H q=some (.lst l)):C6 a (upd H q o) x p:=by
 rcases h with⟨h1,h2,h3,d,hx⟩|⟨F,h1,d,hx⟩
 ·exact .inl ⟨h1,h2,h3,d,by rw[AI (Af hx e (fun z=>nomatch z))];exact hx⟩
 ·exact .inr ⟨F,h1,d,by rw[AI (Af hx e (fun z=>nomatch z))];exact hx⟩
theorem Nd (m:Bool)(row:List Int)(r:List (Bool×List Int)):Dm.BJ ((m,row)::r)=(Dm.GY m row).bind fun p=>(Dm.BJ r).map fun ps=>p::ps:=by
 show(match Dm.GY m row with|none=>none|some p=>match Dm.BJ r with|none=>none|some ps=>some (p::ps))=_
 cases Dm.GY m row with
 |none=>rfl
 |some p=>
  cases Dm.BJ r with
  |none=>rfl
  |some ps=>rfl
section
variable {P:Program}{w:World}{K:PySem.W.Frag}{mg:Str->Option Value}{base:Heap}{a:Ad}
def XS (a:Ad)(o:Option (List Vbrgag.Part))(H:Hp)(Q:VK)(E:XK):Prop:=(o=none->BU a a.Br H E)/\∀ps,o=some ps->∀l H',AK H H'->H l=none->Bb a H' l ps->Q (.ref l) H'
def ZR (a:Ad):Sp:=fun vs H Q E=>∃(t:Addr) (text:List Int),vs=[.ref t]/\H t=some (.lst (iv text))/\text.length<=1000/\XS a (Dm.BJ (Dm.Av false [] text)) H Q E
theorem SR:AL ["text","parts","sign","row","byte"] ["text"] (AG IA):=⟨rfl,rfl,rfl,by decide +kernel,rfl,by decide +kernel,by decide +kernel⟩
structure Vj (a:Ad)(H:Hp)(text:List Int)(i:Nat)(H':Hp)(pl rr:Addr)(m:Bool):Prop where
 same:AK H H'
 npl:H pl=none
 nrr:H rr=none
 ne:pl≠rr
 ex:∃(row:List Int) (ps:List Vbrgag.Part),H' rr=some (.lst (iv row))/\row.length<=i/\Bb a H' pl ps/\ps.length<=i/\Dm.BJ (Dm.Av false [] text)=(Dm.BJ (Dm.Av m row (text.drop i))).map fun qs=>ps++qs
theorem Vj.step (h:text[i]? =some c)(M:Vj a H text i H' pl rr m):text.drop i=c::text.drop (i+1):=by
 obtain⟨hi,e⟩:=List.getElem?_eq_some_iff.mp h
 rw[<-e]
 exact List.drop_eq_getElem_cons hi
theorem Bb.more {H:Hp}{l:Addr}{ps:List Vbrgag.Part}{as:List Addr}{x:Addr}{p:Vbrgag.Part}(e:H l=some (.lst (as.map V.ref)))(h:Paired (fun x p=>C6 a H x p) as ps)(hx:C6 a H x p):Bb a (upd H l (.lst (as.map V.ref++[.ref x]))) l (ps++[p]):=
 ⟨as++[x],by rw[AB,List.map_append];rfl,GK (hx.put e) (pim h fun y q hy=>hy.put e)⟩
theorem Y0 (T:Tx K mg a):Fn P w K mg base (CXR P w) 5 a.IB ["text"] (ZR a):=by
 obtain⟨fd,F,hb⟩:=T.T4
 obtain⟨tp,hp⟩:=T.aJ
 obtain⟨tm,hm⟩:=T.X6
 refine F.fnR hb SR (fun vs H Q E h=>?_) (fun cdv A outer s H vs Q E hr h=>?_)
 ·obtain⟨t,text,rfl,_⟩:=h
  rfl
 ·obtain⟨t,text,rfl,ht,hlen,G1,G2⟩:=h
  have nd:=SR.nd
  have hs:sizeLine=16777216:=sizeLine_eq
  refine⟨_,AD (AN (i:=1) nd rfl (Or.inl rfl) (An AE))
   (AD (AN (i:=2) nd rfl (Or.inl rfl) AH)
   (AD (AN (i:=3) nd rfl (Or.inl rfl) (An AE))
   (AD (BD VC rfl (Cz (pv 0)) (AX (i:=4) nd rfl (Or.inl rfl))
    (AF (BR (PW.pt (Oi (Ag DC (pv 4) (A6 (v:=.int 43) rfl hp ⟨tp,rfl⟩) (Am _)) (Me (Ag DC (pv 4) (A6 (v:=.int 45) rfl hm ⟨tm,rfl⟩) (Am _)))))
     (AD (Az (DD PySem.F.plainAttrs_list PySem.F.slot_list_append PySem.F.type_list_append BM (pv 1) (AA (Ac (Vk T) hr rfl T.Nf (C5 (E':=E) fun _ _ _ h=>h) (AA (pv 2) (AA (pv 3) AE))) AE)))
     (AD (AN (i:=2) nd rfl (Or.inl rfl) (Es (Ag DC (pv 4) (A6 (v:=.int 43) rfl hp ⟨tp,rfl⟩) (Am _)) AH (JT Fo AH)))
     (AF (AN (i:=3) nd rfl (Or.inl rfl) (An AE)))))
     (AF (Az (DD PySem.F.plainAttrs_list PySem.F.slot_list_append PySem.F.type_list_append BM (pv 3) (AA (pv 4) AE)))))))
   (AD (Az (DD PySem.F.plainAttrs_list PySem.F.slot_list_append PySem.F.type_list_append BM (pv 1) (AA (Ac (Vk T) hr rfl T.Nf (C5 (E':=E) fun _ _ _ h=>h) (AA (pv 2) (AA (pv 3) AE))) AE)))
   (AF (AO (pv 1))))))),?_⟩
  refine⟨(by show 0<=sizeLine;decide),fun pl hpl=>?_⟩
  refine sq_ (E2 Ax (sq_ ?_))
  refine⟨(by show 0<=sizeLine;decide),fun rr hrr=>?_⟩
  have M0:Vj a H text 0 (upd (upd H pl (.lst [])) rr (.lst [])) pl rr false:=by
   have n1:pl≠rr:=fun z=>by rw[<-z,AB]at hrr;cases hrr
   refine⟨(AK.new hpl).trans (.new hrr),hpl,by rw[AI (Ne.symm n1)]at hrr;exact hrr,n1,[],[],AB,Nat.le_refl _,⟨[],by rw[AI n1,AB];rfl,.nil⟩,Nat.le_refl _,?_⟩
   rw[List.drop_zero]
   cases Dm.BJ (Dm.Av false [] text) <;> rfl
  generalize upd (upd H pl (.lst [])) rr (.lst [])=H1 at M0
  refine⟨_,rfl,t,rfl,⟨_,SqL.of (M0.same _ _ ht)⟩,Dr (K:=K) (a:=t) (xs:=iv text)
   (fun i σ H'=>∃(rr:Addr) (m:Bool) (v:Option V),σ=[some (.ref t),some (.ref pl),some (.int (sgI m)),some (.ref rr),v]/\Vj a H text i H' pl rr m)
   ⟨rr,false,none,rfl,M0⟩ (fun i σ H' _ ⟨_,_,_,_,M⟩=>SqL.of (M.same _ _ ht)) ?_ ?_⟩
  ·rintro i x σ H' hi ⟨rr,m,v,rfl,M⟩
   obtain⟨c,hc,rfl⟩:=SS hi
   have hd:=M.step hc
   have hi':i<text.length:=(List.getElem?_eq_some_iff.mp hc).1
   obtain⟨row,ps,e1,l1,⟨as,e2,pp⟩,l2,e3⟩:=M.ex
   have las:as.length=ps.length:=Paired.length pp
   rw[hd]at e3
   have more:Dm.isSign c=true->∀m',m'=decide (c=45)->∀D:Ends,D.nx=(fun σ H'=>∃(rr:Addr) (m:Bool) (v:Option V),σ=[some (.ref t),some (.ref pl),some (.int (sgI m)),some (.ref rr),v]/\Vj a H text (i+1) H' pl rr m)->
     Qv (aK (tBM K "list" YH (Ae 1) (CG (tFn (Vl a) E (CG (Ae 2) (CG (Ae 3) DT))) DT))) (Qv (N4 (tIf (Ii (tOp rEq (Ae 4) (tC (.int 43)))) (tC (.int 1)) (tUn (rU fun i=>.int (-i)) (tC (.int 1)))) (Eu 2)) (N4 (Z7 DT) (Eu 3))) D
      [some (.ref t),some (.ref pl),some (.int (sgI m)),some (.ref rr),some (.int c)] H':=fun hsig m' em' D hD=>by
    have ecut:Dm.Av m row (c::text.drop (i+1))=(m,row)::Dm.Av (decide (c=45)) [] (text.drop (i+1)):=by
     show(if Dm.isSign c=true then _ else _)=_
     rw[if_pos hsig]
    rw[ecut,Nd]at e3
    refine⟨_,rfl,.inl ⟨rfl,_,SqL.of e2⟩,_,rfl,_,rfl,m,rr,row,rfl,e1,by omega,fun e0=>?_,fun p ep x H2 s2 px=>?_⟩
    ·rw[e0]at e3
     exact(G1 e3).same M.same
    ·rw[ep]at e3
     refine⟨pl,_,_,rfl,rfl,s2 _ _ e2,by rw[List.length_map,las];omega,?_⟩
     have pm:=Bb.more (s2 _ _ e2) (pim pp fun x q h=>h.same s2) px
     have em:(upd H2 pl (.lst (as.map V.ref++[.ref x]))) rr=some (.lst (iv row)):=by rw[AI (Ne.symm M.ne)];exact s2 _ _ e1
     have s3:AK H (upd H2 pl (.lst (as.map V.ref++[.ref x]))):=fun b o eb=>by
      rw[AI (AM eb M.npl)]
      exact s2 _ _ (M.same _ _ eb)
     generalize upd H2 pl (.lst (as.map V.ref++[.ref x]))=H3 at pm em s3
     have gsg:Gives (tIf (Ii (tOp rEq (Ae 4) (tC (.int 43)))) (tC (.int 1)) (tUn (rU fun i=>.int (-i)) (tC (.int 1)))) ([some (.ref t),some (.ref pl),some (.int (sgI m)),some (.ref rr),some (.int c)]:L2.St) H3 (.int (sgI (decide (c=45)))):=fun Q q=>by
      refine BN (AQ rfl) Ax (BY (fun h4=>?_) (fun h4=>?_))
      ·have h4:c=43:=of_decide_eq_true h4
       subst h4
       exact q
      ·have h4:¬c=43:=fun z=>h4 (decide_eq_true z)
       unfold Dm.isSign at hsig
       rw[decide_eq_false h4,Bool.false_or]at hsig
       rw[hsig]at q
       exact⟨_,rfl,q⟩
     refine sq_ (E2 gsg ?_)
     refine⟨(by show 0<=sizeLine;decide),fun r2 hr2=>?_⟩
     show D.nx _ _
     rw[hD]
     have npl:pl≠r2:=fun z=>by
      obtain⟨_,ee,_⟩:=pm
      rw[z,hr2]at ee
      cases ee
     refine⟨r2,decide (c=45),_,rfl,⟨s3.trans (.new hr2),M.npl,s3.free hr2,npl,[],ps++[p],AB,Nat.zero_le _,pm.same (.new hr2),by rw[List.length_append];show _+1<=_;omega,?_⟩⟩
     rw[e3]
     cases Dm.BJ (Dm.Av (decide (c=45)) [] (text.drop (i+1)))with
     |none=>rfl
     |some qs=>show some (ps++p::qs)=some ((ps++[p])++qs);rw[List.append_assoc];rfl
   have gc:Gives (Ae 4) ([some (.ref t),some (.ref pl),some (.int (sgI m)),some (.ref rr),some (.int c)]:L2.St) H' (.int c):=AQ rfl
   refine BN gc Ax (BY (fun h4=>?_) (fun h4=>?_))
   ·refine LB (more (by unfold Dm.isSign;rw[h4];rfl) _ rfl _ rfl)
   ·refine BN gc Ax (BY (fun h5=>?_) (fun h5=>?_))
    ·exact more (by unfold Dm.isSign;rw[h5,Bool.or_true]) _ rfl _ rfl
    ·have h4:decide (c=43)=false:=by simpa using h4
     have h5:decide (c=45)=false:=by simpa using h5
     have ecut:Dm.Av m row (c::text.drop (i+1))=Dm.Av m (row++[c]) (text.drop (i+1)):=by
      show(if Dm.isSign c=true then _ else _)=_
      rw[if_neg (by unfold Dm.isSign;rw[h4,h5];decide)]
     rw[ecut]at e3
     refine⟨_,rfl,.inl ⟨rfl,_,SqL.of e1⟩,_,rfl,rr,_,_,rfl,rfl,e1,by rw[Ay];omega,?_⟩
     refine⟨rr,m,_,rfl,⟨fun b o eb=>?_,M.npl,M.nrr,M.ne,row++[c],ps,?_,by rw[List.length_append];show _+1<=_;omega,⟨as,by rw[AI M.ne];exact e2,pim pp fun x q h=>h.put e1⟩,by omega,e3⟩⟩
     ·rw[AI (AM eb M.nrr)]
      exact M.same _ _ eb
     ·rw[AB,<-DU]
      rfl
  ·rintro σ H' ⟨rr,m,v,rfl,M⟩
   obtain⟨row,ps,e1,l1,⟨as,e2,pp⟩,l2,e3⟩:=M.ex
   have las:as.length=ps.length:=Paired.length pp
   rw[Ay]at l1 l2 e3
   rw[List.drop_length,show Dm.Av m row []=[(m,row)]from rfl,Nd]at e3
   refine⟨_,rfl,.inl ⟨rfl,_,SqL.of e2⟩,_,rfl,_,rfl,m,rr,row,rfl,e1,by omega,fun e0=>?_,fun p ep x H2 s2 px=>?_⟩
   ·rw[e0]at e3
    exact(G1 e3).same M.same
   ·rw[ep]at e3
    refine⟨pl,_,_,rfl,rfl,s2 _ _ e2,by rw[List.length_map,las];omega,?_⟩
    have pm:=Bb.more (s2 _ _ e2) (pim pp fun x q h=>h.same s2) px
    exact⟨_,rfl,G2 (ps++[p]) e3 pl _ (fun b o eb=>by rw[AI (AM eb M.npl)];exact s2 _ _ (M.same _ _ eb)) M.npl pm⟩
end
theorem Cn:∀{l:List α}{m:List β}{i:Nat}{x:α},Paired F l m->l[i]? =some x->∃y,m[i]? =some y/\F x y
 |_,_,i,x,.nil,h=>by simp at h
 |_,_,0,x,.cons h' _,h=>⟨_,rfl,by cases h;exact h'⟩
 |_,_,i+1,x,.cons _ r,h=>Cn (i:=i) r h
section
variable {P:Program}{w:World}{K:PySem.W.Frag}{mg:Str->Option Value}{base:Heap}{a:Ad}
def tPM (a:Ad)(m:Str)(spA spD:Sp)(n:Nat)(t:TA):TE:=fun σ H Q=>tMt a.B5 m spA E0 (Ae n) t σ H Q\/tMt a.Dt m spD E0 (Ae n) t σ H Q
theorem pm_ (e:σ[n]? =some (some (.ref x)))(h:C6 a H x p)(hm:("sign":Str)≠m/\("amount":Str)≠m/\("dice":Str)≠m/\("faces":Str)≠m/\("kept":Str)≠m/\("greatest":Str)≠m)
  (kA:VD a H x p->t σ H fun vs H2=>spA (.ref x::vs) H2 Q E0)(kD:Qn a H x p->t σ H fun vs H2=>spD (.ref x::vs) H2 Q E0):tPM a m spA spD n t σ H Q:=by
 have lk:∀(f:Str) (v:V) (r:List (Str×V)),f≠m->List.lookup m ((f,v)::r)=List.lookup m r:=fun f v r h=>by
  rw[List.lookup_cons]
  rw[show(m == f)=false from beq_eq_false_iff_ne.mpr (Ne.symm h)]
 obtain⟨m1,m2,m3,m4,m5,m6⟩:=hm
 rcases h with h|h
 ·have h':=h
  obtain⟨_,_,_,d,hx⟩:=h
  exact .inl ⟨_,e,x,d,_,rfl,hx,by rw[lk _ _ _ m1,lk _ _ _ m2];rfl,kA h'⟩
 ·have h':=h
  obtain⟨F,_,d,hx⟩:=h
  exact .inr ⟨_,e,x,d,_,rfl,hx,by rw[lk _ _ _ m1,lk _ _ _ m3,lk _ _ _ m4,lk _ _ _ m5,lk _ _ _ m6];rfl,kD h'⟩
theorem Mj (T:Tx K mg a)(e:σ[n]? =some (some (.ref x)))(h:C6 a H x p):Gives (Bq K (Ae n) "sign") σ H (.int (sgn p)):=by
 rcases h with⟨_,_,_,d,hx⟩|⟨F,_,d,hx⟩
 ·exact A9 (AQ e) hx T.Co T.Ky rfl
 ·exact A9 (AQ e) hx T.Bn T.NP rfl
def aG (a:Ad):Sp:=fun vs H Q E=>∃(t:Addr) (text:List Int),vs=[.ref t]/\H t=some (.lst (iv text))/\text.length<=1000/\
 (Vbrgag.read text=.error 0->BU a a.Br H E)/\(Vbrgag.read text=.error 1->BU a a.Ah H E)/\(∀ps,Vbrgag.read text=.ok ps->∀l H',AK H H'->H l=none->Bb a H' l ps->Q (.ref l) H')
theorem VE:AL ["text","parts","part"] ["text"] (AG JL):=⟨rfl,rfl,rfl,by decide +kernel,rfl,by decide +kernel,by decide +kernel⟩
theorem aH (T:Tx K mg a):Fn P w K mg base (CXR P w) 6 a.KI ["text"] (aG a):=by
 obtain⟨fd,F,hb⟩:=T.VF
 refine F.fnR hb VE (fun vs H Q E h=>?_) (fun cdv A outer s H vs Q E hr h=>?_)
 ·obtain⟨t,text,rfl,_⟩:=h
  rfl
 ·obtain⟨t,text,rfl,ht,hlen,G0,G1,G2⟩:=h
  have nd:=VE.nd
  refine⟨_,AD (AN (i:=1) nd rfl (Or.inl rfl) (Ac (Y0 T) hr rfl T.S8 (C5 (E':=E) fun _ _ _ h=>h) (AA (pv 0) AE)))
   (AD (BR (Ag Ih (AZ Ai rfl T.EJ CU (AA (pv 1) AE)) AH (Am _)) (AF (BW CY rfl rfl T.A0 T.Aj)) Al)
   (AD (BD VC rfl (Cz (pv 1)) (AX (i:=2) nd rfl (Or.inl rfl))
    (AF (BR (JM (LC (PE.or (Ck (pv 2) T.Co T.Qo (Wr T) hr Bv) (Ck (pv 2) T.Bn T.VG (Ws T) hr Bv)))) (AF (BW CY rfl rfl T.A0 T.Aj)) Al)))
   (AF (AO (pv 1))))),?_⟩
  rw[Dm.cx]at G0 G1 G2
  refine⟨_,rfl,t,text,rfl,ht,hlen,fun e0=>G0 (by rw[e0]),fun ps ep l H1 s1 nl1 hps=>?_⟩
  rw[ep]at G0 G1 G2
  have G1:(Vbrgag.PARTS<ps.length\/ps.all Vbrgag.fits=false)->BU a a.Ah H E:=fun h=>G1 (if_pos h)
  have G2:¬(Vbrgag.PARTS<ps.length\/ps.all Vbrgag.fits=false)->∀l H',AK H H'->H l=none->Bb a H' l ps->Q (.ref l) H':=fun h=>G2 ps (if_neg h)
  obtain⟨as,e1,pp⟩:=id hps
  have las:as.length=ps.length:=Paired.length pp
  refine CZ (Mi (AQ rfl) (SqL.of e1)) Ax (BY (fun h1=>?_) (fun h1=>?_))
  ·have h1:(3:Int)<((as.map V.ref).length:Nat):=of_decide_eq_true h1
   rw[List.length_map]at h1
   exact G1 (.inl (by show 3<_;omega)) _ s1
  ·have h1:¬(3:Int)<((as.map V.ref).length:Nat):=fun z=>h1 (decide_eq_true z)
   rw[List.length_map]at h1
   refine nx_ ?_
   refine⟨_,rfl,l,rfl,⟨_,SqL.of e1⟩,Dr (K:=K) (a:=l) (xs:=as.map V.ref) (fun i σ H'=>∃v:Option V,σ=[some (.ref t),some (.ref l),v]/\H'=H1/\(ps.take i).all Vbrgag.fits=true) ⟨none,rfl,rfl,rfl⟩ (fun i σ H' _ ⟨_,_,e,_⟩=>by rw[e];exact SqL.of e1) ?_ ?_⟩
   ·rintro i x σ H' hi ⟨v,rfl,rfl,hall⟩
    rw[List.getElem?_map]at hi
    obtain⟨xa,hxa,rfl⟩:=Option.map_eq_some_iff.mp hi
    obtain⟨p,hp,px⟩:=Cn pp hxa
    refine pm_ (a:=a) (n:=2) (x:=xa) (p:=p) rfl px (by decide) (fun hA=>⟨xa,p,rfl,hA,_,rfl,?_⟩) (fun hD=>⟨xa,p,rfl,hD,_,rfl,?_⟩)
    all_goals
     refine BY (fun h2=>?_) (fun h2=>?_)
     ·refine G1 (.inr ?_) _ s1
      have h2:Vbrgag.fits p=false:=by simpa using h2
      rw[List.all_eq_false]
      exact⟨p,List.mem_of_getElem? hp,by rw[h2];decide⟩
     ·have h2:Vbrgag.fits p=true:=by simpa using h2
      refine⟨_,rfl,rfl,?_⟩
      rw[List.take_add_one,hp,List.all_append,hall]
      show(true&&(Vbrgag.fits p&&true))=true
      rw[h2]
      rfl
   ·rintro σ H' ⟨v,rfl,rfl,hall⟩
    rw[List.length_map,las,List.take_length]at hall
    exact⟨_,rfl,G2 (fun z=>z.elim (fun z=>absurd (show 3<ps.length from z) (by omega)) (fun z=>by rw[hall]at z;cases z)) l H' s1 nl1 hps⟩
theorem text_len (f:Dm.Fits p):(Vbrgag.partText p).length<=20:=by
 unfold Vbrgag.partText
 by_cases hz:p.faces=0
 ·rw[if_pos hz]
  have:=DW (n:=p.count) (by have:=f.num hz;omega)
  omega
 ·rw[if_neg hz]
  obtain⟨b1,b2,b3,b4,b5,b6,b7,b8⟩:=f.dice hz
  have l1:=DW (n:=p.count) (by omega)
  have l2:=DW (n:=p.faces) (by omega)
  have l3:=DW (n:=p.keep) (by omega)
  rw[List.length_append,List.length_cons,List.length_append]
  split
  ·rw[List.length_nil];omega
  ·rw[List.length_cons];omega
def iP (a:Ad):Sp:=fun vs H Q _=>∃l ps,vs=[.ref l]/\Bb a H l ps/\ps.length<=3/\(∀p∈ps,Dm.Fits p)/\Ip H (iv (Vbrgag.write ps)) Q
theorem aI:AL ["parts","row","place","part"] ["parts"] (AG LF):=⟨rfl,rfl,rfl,by decide +kernel,rfl,by decide +kernel,by decide +kernel⟩
theorem Wt {ps:List Vbrgag.Part}{i:Nat}{p:Vbrgag.Part}(h:ps[i]? =some p):Vbrgag.write (ps.take (i+1))=(if i=0 then []else Vbrgag.write (ps.take i)++[if p.minus=true then 45 else 43])++Vbrgag.partText p:=by
 rw[List.take_add_one,h]
 cases i with
 |zero=>
  rw[List.take_zero,if_pos rfl]
  exact Dm.Y1 p
 |succ i=>
  rw[if_neg (by omega)]
  cases ps with
  |nil=>simp at h
  |cons q r=>
   rw[List.take_succ_cons]
   show Vbrgag.write (q::r.take i++[p])=_
   rw[Dm.Wu,List.append_assoc]
   rfl
theorem iQ (T:Tx K mg a):Fn P w K mg base CX0 3 a.Lo ["parts"] (iP a):=by
 obtain⟨fd,F,hb⟩:=T.Wv
 obtain⟨tp,hp⟩:=T.aJ
 obtain⟨tm,hm⟩:=T.X6
 refine F.fn hb aI (fun vs H Q E h=>?_) (fun cdv A outer s H vs Q E hr h=>?_)
 ·obtain⟨l,ps,rfl,_⟩:=h
  rfl
 ·obtain⟨l,ps,rfl,⟨as,e1,pp⟩,hlen,hfit,k⟩:=h
  have nd:=aI.nd
  have las:as.length=ps.length:=Paired.length pp
  have hs:sizeLine=16777216:=sizeLine_eq
  refine⟨_,AD (AN (i:=1) nd rfl (Or.inl rfl) (An AE))
   (AD (BD PassesOwn.never rfl (KJ rfl T.Dj (AA (pv 0) AE)) (Hw rfl (BL (AX (i:=2) nd rfl (Or.inl rfl)) (BL (AX (i:=3) nd rfl (Or.inl rfl)) FC)))
    (AD (BR (Ag Ih (pv 2) AH (Am _)) (AF (Az (DD PySem.F.plainAttrs_list PySem.F.slot_list_append PySem.F.type_list_append BM (pv 1) (AA (Es (Ag Ih (AJ (pv 3) rfl) AH (Am _)) (A6 (v:=.int 43) rfl hp ⟨tp,rfl⟩) (A6 (v:=.int 45) rfl hm ⟨tm,rfl⟩)) AE)))) Al)
    (AF (Az (DD PySem.F.plainAttrs_list PySem.F.slot_list_extend PySem.F.type_list_extend Mf (pv 1) (AA (PE.or (Ck (pv 3) T.Co T.Ml (Qp T) hr AU) (Ck (pv 3) T.Bn T.Ou (Qq T) hr AU)) AE))))))
   (AF (AO (pv 1)))),?_⟩
  refine⟨(by show 0<=sizeLine;decide),fun r hr0=>?_⟩
  refine⟨_,rfl,l,_,rfl,SqL.of ((AK.new hr0) _ _ e1),HX (K:=K) (a:=l) (xs:=as.map V.ref)
   (fun i σ H'=>∃v2 v3:Option V,σ=[some (.ref l),some (.ref r),v2,v3]/\AK H H'/\H' r=some (.lst (iv (Vbrgag.write (ps.take i))))/\(Vbrgag.write (ps.take i)).length<=30*i)
   ⟨none,none,rfl,.new hr0,AB,Nat.zero_le _⟩ (fun i σ H' _ ⟨_,_,_,s1,_⟩=>SqL.of (s1 _ _ e1)) ?_ ?_⟩
  ·rintro i x σ H' T1 hi ⟨v2,v3,rfl,s1,er,wl⟩ hT1
   rw[List.getElem?_map]at hi
   obtain⟨xa,hxa,rfl⟩:=Option.map_eq_some_iff.mp hi
   obtain⟨p,hp',px⟩:=Cn pp hxa
   have hi3:i<3:=by have:=(List.getElem?_eq_some_iff.mp hp').1;omega
   have fp:=hfit p (List.mem_of_getElem? hp')
   have tl:=text_len fp
   have ws:=Wt hp'
   refine⟨T1,_,rfl,SqT.of AB,rfl,_,_,rfl,_,_,rfl,rfl,?_⟩
   have s2:AK H' (upd H' T1 (.tup [.int (i:Nat),.ref xa])):=.new hT1
   generalize upd H' T1 (.tup [.int (i:Nat),.ref xa])=H2 at s2
   have fin:∀(H3:Hp) (pre:List Int),AK H H3->H3 r=some (.lst (iv pre))->pre.length<=30*i+1->Vbrgag.write (ps.take (i+1))=pre++Vbrgag.partText p->∀D:Ends,D.nx=(fun σ H'=>∃v2 v3:Option V,σ=[some (.ref l),some (.ref r),v2,v3]/\AK H H'/\H' r=some (.lst (iv (Vbrgag.write (ps.take (i+1)))))/\(Vbrgag.write (ps.take (i+1))).length<=30*(i+1))->
     aK (tBM K "list" S9 (Ae 1) (CG (tPM a "written" (Kz a) (K0 a) 3 DT) DT)) D [some (.ref l),some (.ref r),some (.int (i:Nat)),some (.ref xa)] H3:=fun H3 pre s3 er3 pl ew D hD=>by
    refine⟨_,rfl,.inl ⟨rfl,_,SqL.of er3⟩,?_⟩
    have px3:=px.same s3
    have go:Ip H3 (iv (Vbrgag.partText p)) fun v H4=>S9 (.ref r) [v] H4 fun _ H'=>D.nx [some (.ref l),some (.ref r),some (.int (i:Nat)),some (.ref xa)] H':=fun b H4 s4 nb eb=>by
     refine⟨r,b,_,_,rfl,rfl,s4 _ _ er3,eb,by rw[Ay,Ay];omega,?_⟩
     rw[hD]
     refine⟨_,_,rfl,fun b' o e=>?_,by rw[AB,DU,ew],by rw[ew,List.length_append];omega⟩
     rw[AI (AM e hr0)]
     exact s4 _ _ (s3 _ _ e)
    exact pm_ (a:=a) (n:=3) (x:=xa) (p:=p) rfl px3 (by decide) (fun hA=>⟨xa,p,rfl,hA,fp,go⟩) (fun hD=>⟨xa,p,rfl,hD,fp,go⟩)
   refine sq_ (CZ (AQ rfl) Ax (BY (fun h1=>?_) (fun h1=>?_)))
   ·have h1:(0:Int)<(i:Nat):=of_decide_eq_true h1
    rw[if_neg (by omega)]at ws
    have gs:Gives (tIf (Ii (tOp (rI0 fun i j=>.bl (decide (i>j))) (Bq K (Ae 3) "sign") (tC (.int 0)))) (tC (.int 43)) (tC (.int 45))) ([some (.ref l),some (.ref r),some (.int (i:Nat)),some (.ref xa)]:L2.St) H2 (.int (if p.minus=true then 45 else 43)):=fun Q q=>by
     refine CZ (Mj T rfl (px.same (s1.trans s2))) Ax (BY (fun h2=>?_) (fun h2=>?_))
     ·have h2:(0:Int)<sgn p:=of_decide_eq_true h2
      unfold sgn at h2
      by_cases hm:p.minus=true
      ·rw[if_pos hm]at h2;omega
      ·rw[if_neg hm]at q;exact q
     ·have h2:¬(0:Int)<sgn p:=fun z=>h2 (decide_eq_true z)
      unfold sgn at h2
      by_cases hm:p.minus=true
      ·rw[if_pos hm]at q;exact q
      ·rw[if_neg hm]at h2;omega
    refine⟨_,rfl,.inl ⟨rfl,_,SqL.of (s2 _ _ er)⟩,gs _ ⟨r,_,_,rfl,rfl,s2 _ _ er,by rw[Ay];omega,?_⟩⟩
    refine fin _ (Vbrgag.write (ps.take i)++[if p.minus=true then 45 else 43]) (fun b o e=>?_) ?_ ?_ ws _ rfl
    ·rw[AI (AM e hr0)]
     exact s2 _ _ (s1 _ _ e)
    ·rw[AB,<-DU]
     rfl
    ·rw[List.length_append];show _+1<=_;omega
   ·have h1:¬(0:Int)<(i:Nat):=fun z=>h1 (decide_eq_true z)
    have h0:i=0:=by omega
    rw[if_pos h0]at ws
    refine nx_ (fin H2 [] (s1.trans s2) ?_ (Nat.zero_le _) ws _ rfl)
    have e2:=s2 _ _ er
    rw[h0]at e2
    exact e2
  ·rintro σ H' ⟨v2,v3,rfl,s1,er,wl⟩
   rw[List.length_map,las,List.take_length]at er
   exact⟨_,rfl,k r H' s1 hr0 er⟩
end
end Fd
namespace Dm
open Vbrgag
theorem K1 (hf:1<=f):∀(j s:Nat) (x:Nat),x∈(rollDice f j s).1->1<=x/\x<=f
 |0,s,x,h=>by simp[rollDice]at h
 |j+1,s,x,h=>by
  rw[G7]at h
  rcases List.mem_cons.mp h with e|h
  ·have:drawn (nextOf s) f<f:=Nat.mod_lt _ hf
   omega
  ·exact K1 hf j _ x h
end Dm
namespace Fd
open PySem PySem.Spec PyProof.Rows L2
theorem Vf (h:Dm.Few n d)(hn:n<=3):KR d:=by
 refine⟨h.some,?_,by have:=h.len;omega⟩
 have h1:2 ^ (42*n)<=2 ^ 126:=Nat.pow_le_pow_right (by decide) (by omega)
 exact Bd.more (B:=127) (Nat.lt_of_le_of_lt (Nat.le_trans h.tot h1) (by decide)) (by decide)
theorem Tu (f:Dm.Fits p):KR (Vbrgag.partDist p):=by
 obtain⟨h1,h2,h3⟩:=Dm.Na f
 exact⟨Dm.Ef p,Bd.more (B:=42) h1 (by decide),by omega⟩
theorem ZQ {ps:List Vbrgag.Part}{i:Nat}{p:Vbrgag.Part}(h:ps[i]? =some p):Vbrgag.distOf (ps.take (i+1))=Vbrgag.sumOf (Vbrgag.distOf (ps.take i)) (Vbrgag.partDist p):=by
 unfold Vbrgag.distOf
 rw[List.take_add_one,h,List.foldl_append]
 rfl
section
variable {P:Program}{w:World}{K:PySem.W.Frag}{mg:Str->Option Value}{base:Heap}{a:Ad}
def kh (a:Ad):Sp:=fun vs H Q _=>∃l ps,vs=[.ref l]/\Bb a H l ps/\ps.length<=3/\(∀p∈ps,Dm.Fits p)/\∀r H',AK H H'->DX a H' r (Vbrgag.distOf ps)->Q (.ref r) H'
theorem fj:AL ["parts","total","part","spread"] ["parts"] (AG G8):=⟨rfl,rfl,rfl,by decide +kernel,rfl,by decide +kernel,by decide +kernel⟩
theorem Nb (T:Tx K mg a):Fn P w K mg base CX0 6 a.GV ["parts"] (kh a):=by
 obtain⟨fd,F,hb⟩:=T.Qy
 refine F.fn hb fj (fun vs H Q E h=>?_) (fun cdv A outer s H vs Q E hr h=>?_)
 ·obtain⟨l,ps,rfl,_⟩:=h
  rfl
 ·obtain⟨l,ps,rfl,⟨as,e1,pp⟩,hlen,hfit,k⟩:=h
  have nd:=fj.nd
  have las:as.length=ps.length:=Paired.length pp
  refine⟨_,AD (AN (i:=1) nd rfl (Or.inl rfl) (Dv T.Fj (Bj T) hr rfl T.Fl AU (AA AH (AA (An (AA AH AE)) AE))))
   (AD (BD PassesOwn.never rfl (Cz (pv 0)) (AX (i:=2) nd rfl (Or.inl rfl))
    (AD (AN (i:=3) nd rfl (Or.inl rfl) (PE.or (Ck (pv 2) T.Co T.N8 (TJ T) hr AU) (Ck (pv 2) T.Bn T.Qz (Tv T) hr AU)))
    (AD (BR (Ag X9 (AJ (pv 2) rfl) AH (Am _)) (AF (AN (i:=3) nd rfl (Or.inl rfl) (Ac (Vg T) hr rfl T.XR AU (AA (pv 3) AE)))) Al)
    (AF (AN (i:=1) nd rfl (Or.inl rfl) (Ac (Vh T) hr rfl T.YR AU (AA (pv 1) (AA (pv 3) AE))))))))
   (AF (AO (pv 1)))),?_⟩
  refine⟨(by show 1<=sizeLine;decide),fun l1 hl1=>?_⟩
  intro x dx nx ndx ne
  refine⟨x,dx,_,_,rfl,AB,fun H1 hx1 b1=>⟨rfl,?_⟩⟩
  have s1:AK H H1:=(AK.new hl1).trans (AK.init nx ndx b1)
  have d1:DX a H1 x (Vbrgag.distOf (ps.take 0)):=⟨l1,⟨dx,hx1⟩,(AK.init nx ndx b1) _ _ AB⟩
  refine⟨_,rfl,l,rfl,⟨_,SqL.of (s1 _ _ e1)⟩,Dr (K:=K) (a:=l) (xs:=as.map V.ref) (fun i σ H'=>∃(v2 v3:Option V) (r:Addr),σ=[some (.ref l),some (.ref r),v2,v3]/\AK H H'/\DX a H' r (Vbrgag.distOf (ps.take i)))
   ⟨none,none,x,rfl,s1,d1⟩ (fun i σ H' _ ⟨_,_,_,_,s2,_⟩=>SqL.of (s2 _ _ e1)) ?_ ?_⟩
  ·rintro i z σ H' hi ⟨v2,v3,r,rfl,s2,dr⟩
   rw[List.getElem?_map]at hi
   obtain⟨xa,hxa,rfl⟩:=Option.map_eq_some_iff.mp hi
   obtain⟨p,hp,px⟩:=Cn pp hxa
   have fp:=hfit p (List.mem_of_getElem? hp)
   have px2:=px.same s2
   have hi3:i<3:=by have:=(List.getElem?_eq_some_iff.mp hp).1;omega
   have few:KR (Vbrgag.distOf (ps.take i)):=Vf (n:=(ps.take i).length) (Dm.DF fun q hq=>hfit q (List.mem_of_mem_take hq)) (by rw[List.length_take];omega)
   have last:∀(q:Addr) (H3:Hp),AK H' H3->DX a H3 q (Vbrgag.partDist p)->∀D:Ends,D.nx=(fun σ H'=>∃(v2 v3:Option V) (r:Addr),σ=[some (.ref l),some (.ref r),v2,v3]/\AK H H'/\DX a H' r (Vbrgag.distOf (ps.take (i+1))))->
     N4 (tFn (PF a) E0 (CG (Ae 1) (CG (Ae 3) DT))) (Eu 1) D [some (.ref l),some (.ref r),some (.ref xa),some (.ref q)] H3:=fun q H3 s3 dq D hD=>by
    refine⟨_,rfl,_,rfl,r,q,_,_,rfl,dr.same s3,dq,few,Tu fp,fun r' H4 s4 d4=>?_⟩
    show D.nx _ _
    rw[hD]
    refine⟨_,_,r',rfl,s2.trans (s3.trans s4),?_⟩
    rw[ZQ hp]
    exact d4
   have mid:∀(q:Addr) (H3:Hp),AK H' H3->DX a H3 q (Dm.bare p)->∀D:Ends,D.nx=(fun σ H'=>∃(v2 v3:Option V) (r:Addr),σ=[some (.ref l),some (.ref r),v2,v3]/\AK H H'/\DX a H' r (Vbrgag.distOf (ps.take (i+1))))->
     Qv (aF (Ii (tOp (rI0 fun i j=>.bl (decide (i<j))) (Bq K (Ae 2) "sign") (tC (.int 0)))) (N4 (tFn (Nc a) E0 (CG (Ae 3) DT)) (Eu 3)) Rw) (N4 (tFn (PF a) E0 (CG (Ae 1) (CG (Ae 3) DT))) (Eu 1)) D [some (.ref l),some (.ref r),some (.ref xa),some (.ref q)] H3:=fun q H3 s3 dq D hD=>by
    refine sq_ (CZ (Mj T rfl (px2.same s3)) Ax (BY (fun h2=>?_) (fun h2=>?_)))
    ·have h2:sgn p<0:=of_decide_eq_true h2
     refine⟨_,rfl,q,_,rfl,dq,fun r' H4 s4 d4=>last r' H4 (s3.trans s4) ?_ D hD⟩
     rw[Dm.Ci]
     unfold sgn at h2
     by_cases hm:p.minus=true
     ·rw[if_pos hm];exact d4
     ·rw[if_neg hm]at h2;omega
    ·have h2:¬sgn p<0:=fun z=>h2 (decide_eq_true z)
     refine nx_ (last q H3 s3 ?_ D hD)
     rw[Dm.Ci]
     unfold sgn at h2
     by_cases hm:p.minus=true
     ·rw[if_pos hm]at h2;omega
     ·rw[if_neg hm];exact dq
   refine pm_ (a:=a) (n:=2) (x:=xa) (p:=p) rfl px2 (by decide) (fun hA=>⟨xa,p,rfl,hA,fun q H3 s3 d3=>mid q H3 s3 d3 _ rfl⟩) (fun hD=>⟨xa,p,rfl,hD,fp,fun q H3 s3 d3=>mid q H3 s3 d3 _ rfl⟩)
  ·rintro σ H' ⟨v2,v3,r,rfl,s2,dr⟩
   rw[List.length_map,las,List.take_length]at dr
   exact⟨_,rfl,k r H' s2 dr⟩
def ki (a:Ad):Sp:=fun vs H Q _=>∃l ps y s,vs=[.ref l,.ref y]/\Bb a H l ps/\ps.length<=3/\(∀p∈ps,Dm.Fits p)/\Kk a H y s/\
 ∀H',Kk a H' y (Vbrgag.rollParts ps s).2.2->But y H H'->Q (.int (Vbrgag.rollParts ps s).1) H'
theorem fk:AL ["parts","stream","value","part"] ["parts","stream"] (AG Fq):=⟨rfl,rfl,rfl,by decide +kernel,rfl,by decide +kernel,by decide +kernel⟩
theorem C6.but (h:C6 a H x p)(hy:Kk a H y s)(b:But y H H'):C6 a H' x p:=by
 obtain⟨dy,hy⟩:=hy
 rcases h with⟨h1,h2,h3,d,hx⟩|⟨F,h1,d,hx⟩
 ·exact .inl ⟨h1,h2,h3,d,b x _ (Af hx hy (by intro z;injection z with z1 z2 z3;cases z3)) hx⟩
 ·exact .inr ⟨F,h1,d,b x _ (Af hx hy (by intro z;injection z with z1 z2 z3;cases z3)) hx⟩
theorem kj (T:Tx K mg a):Fn P w K mg base CX0 4 a.FE ["parts","stream"] (ki a):=by
 obtain⟨fd,F,hb⟩:=T.PH
 refine F.fn hb fk (fun vs H Q E h=>?_) (fun cdv A outer s H vs Q E hr h=>?_)
 ·obtain⟨l,ps,y,s,rfl,_⟩:=h
  rfl
 ·obtain⟨l,ps,y,s0,rfl,⟨as,e1,pp⟩,hlen,hfit,hy,k⟩:=h
  have nd:=fk.nd
  have las:as.length=ps.length:=Paired.length pp
  have hly:l≠y:=by obtain⟨dy,hy⟩:=hy;exact Af e1 hy (fun z=>nomatch z)
  refine⟨_,AD (AN (i:=2) nd rfl (Or.inl rfl) AH)
   (AD (BD PassesOwn.never rfl (Cz (pv 0)) (AX (i:=3) nd rfl (Or.inl rfl))
    (AF (LH (i:=2) nd rfl (Or.inl rfl) (AS BK (AJ (pv 3) rfl) (PE.or (B4 (pv 3) T.Co T.N9 (TN T) hr AU (AA (pv 1) AE)) (B4 (pv 3) T.Bn T.Q0 (Tw T) hr AU (AA (pv 1) AE)))) G6)))
   (AF (AO (pv 2)))),?_⟩
  refine sq_ (E2 Ax (sq_ ?_))
  refine⟨_,rfl,l,rfl,⟨_,SqL.of e1⟩,Dr (K:=K) (a:=l) (xs:=as.map V.ref) (fun i σ H'=>∃v3:Option V,σ=[some (.ref l),some (.ref y),some (.int (Vbrgag.rollParts (ps.take i) s0).1),v3]/\But y H H'/\Kk a H' y (Vbrgag.rollParts (ps.take i) s0).2.2)
   ⟨none,rfl,(AK.refl H).but,hy⟩ (fun i σ H' _ ⟨_,_,b,_⟩=>SqL.of (b _ _ hly e1)) ?_ ?_⟩
  ·rintro i z σ H' hi ⟨v3,rfl,b1,hy1⟩
   rw[List.getElem?_map]at hi
   obtain⟨xa,hxa,rfl⟩:=Option.map_eq_some_iff.mp hi
   obtain⟨p,hp,px⟩:=Cn pp hxa
   have fp:=hfit p (List.mem_of_getElem? hp)
   have px1:=px.but hy b1
   obtain⟨m1,m2⟩:=Dm.JY (ps.take i) p s0
   have et:ps.take (i+1)=ps.take i++[p]:=by rw[List.take_add_one,hp];rfl
   rw[<-et]at m1 m2
   have fin:∀(n:Nat) (H2:Hp),n<2 ^ 40->(Vbrgag.rollPart p (Vbrgag.rollParts (ps.take i) s0).2.2).1=(if p.minus=true then -1 else 1)*(n:Int)->Kk a H2 y (Vbrgag.rollPart p (Vbrgag.rollParts (ps.take i) s0).2.2).2.2->But y H' H2->∀D:Ends,D.nx=(fun σ H'=>∃v3:Option V,σ=[some (.ref l),some (.ref y),some (.int (Vbrgag.rollParts (ps.take (i+1)) s0).1),v3]/\But y H H'/\Kk a H' y (Vbrgag.rollParts (ps.take (i+1)) s0).2.2)->
     rI CW (fun i j=>.int (i*j)) (.int (sgn p)) (.int n) H2 fun v H3=>ipI (fun i j=>i+j) (.int (Vbrgag.rollParts (ps.take i) s0).1) v H3 fun z H4=>D.nx (([some (.ref l),some (.ref y),some (.int (Vbrgag.rollParts (ps.take i) s0).1),some (.ref xa)]:L2.St).set 2 (some z)) H4:=fun n H2 hn er hy2 b2 D hD=>by
    refine⟨_,_,rfl,rfl,⟨40,40,by decide,?_,by omega⟩,_,_,rfl,rfl,?_⟩
    ·unfold sgn
     split <;> decide
    ·rw[hD]
     refine⟨some (.ref xa),?_,b1.trans b2,by rw[m2];exact hy2⟩
     rw[m1,er]
     rfl
   refine⟨_,rfl,Mj T rfl px1 _ ?_⟩
   refine pm_ (a:=a) (n:=3) (x:=xa) (p:=p) rfl px1 (by decide) (fun hA=>?_) (fun hD=>?_)
   ·have hz:=hA.no
    obtain⟨r1,r2⟩:=Dm.Tz (p:=p) hz (Vbrgag.rollParts (ps.take i) s0).2.2
    have hc:=fp.num hz
    exact⟨_,rfl,xa,p,_,rfl,hA,fin p.count H' (by omega) r1 (by rw[r2];exact hy1) (AK.refl _).but _ rfl⟩
   ·have hz:=hD.no
    obtain⟨r1,r2⟩:=Dm.Q3 (p:=p) fp hz (Vbrgag.rollParts (ps.take i) s0).2.2
    refine⟨_,rfl,xa,p,y,_,rfl,hD,fp,hy1,fun H2 hy2 b2=>fin _ H2 ?_ r1 (by rw[r2];exact hy2) b2 _ rfl⟩
    obtain⟨c1,c2,c3,c4,c5,c6,c7,c8⟩:=fp.dice hz
    have sb:=(Dm.Hz (faces:=p.faces) (Dm.hold p.best p.keep (Vbrgag.rollDice p.faces p.count (Vbrgag.rollParts (ps.take i) s0).2.2).1) fun x hx=>Dm.K1 (by omega) _ _ _ (Dm.PJ hx)).2
    rw[Dm.Ly]at sb
    have h1:p.faces*min p.keep (Vbrgag.rollDice p.faces p.count (Vbrgag.rollParts (ps.take i) s0).2.2).1.length<=100*6:=Nat.mul_le_mul c4 (Nat.le_trans (Nat.min_le_left _ _) (by omega))
    generalize(Dm.hold p.best p.keep (Vbrgag.rollDice p.faces p.count (Vbrgag.rollParts (ps.take i) s0).2.2).1).sum=z at sb
    omega
  ·rintro σ H' ⟨v3,rfl,b1,hy1⟩
   rw[List.length_map,las,List.take_length]at hy1 ⊢
   exact⟨_,rfl,k H' hy1 b1⟩
end
end Fd
namespace Dm
open Vbrgag
theorem Wi:∀n,(dice f n).low=(n:Int)
 |0=>rfl
 |n+1=>by
  show(die f).low+(dice f n).low=_
  rw[Wi n]
  show(1:Int)+n=((n+1:Nat):Int)
  omega
theorem cZ (h:Fits p):0<=(bare p).low/\(bare p).low<=100:=by
 unfold bare
 by_cases hz:p.faces=0
 ·rw[if_pos hz]
  have:=h.num hz
  show(0:Int)<=p.count/\(p.count:Int)<=100
  omega
 ·rw[if_neg hz]
  obtain⟨a,b,c,d,e,f,g,k⟩:=h.dice hz
  by_cases hk:p.keep=p.count
  ·rw[if_pos hk,Wi];omega
  ·rw[if_neg hk]
   show(0:Int)<=p.keep/\(p.keep:Int)<=100
   omega
theorem cf (h:Fits p):-300<=(partDist p).low/\(partDist p).low<=300:=by
 have h1:=cZ h
 have h2:=(Jf h).2.2
 rw[Ci]
 split
 ·show -300<=-(bare p).high/\-(bare p).high<=300
  unfold Dist.high
  omega
 ·omega
theorem Wj:∀(ps:List Part) (d:Dist) (n:Nat),(∀p∈ps,Fits p)->-(300*n:Int)<=d.low/\d.low<=300*n->-(300*(n+ps.length:Nat):Int)<=(ps.foldl (fun a p=>sumOf a (partDist p)) d).low/\(ps.foldl (fun a p=>sumOf a (partDist p)) d).low<=300*(n+ps.length:Nat)
 |[],d,n,_,h=>h
 |p::ps,d,n,hf,h=>by
  rw[List.foldl_cons,List.length_cons]
  have h1:=cf (hf p List.mem_cons_self)
  have:=Wj ps (sumOf d (partDist p)) (n+1) (fun q hq=>hf q (List.mem_cons_of_mem _ hq)) (by show _<=d.low+(partDist p).low/\d.low+(partDist p).low<=_;omega)
  rw[show n+(ps.length+1)=n+1+ps.length by omega]
  exact this
theorem bT (hf:∀p∈ps,Fits p)(hl:ps.length<=3):-900<=(distOf ps).low/\(distOf ps).low<=900:=by
 have:=Wj ps (constant 0) 0 hf (by show _<=(0:Int)/\(0:Int)<=_;omega)
 unfold distOf
 omega
theorem bU (f:Nat->Int)(B:Nat):∀(l:List Nat),(∀k,k<l.length->(f k).natAbs<=B)->(S f l).natAbs<=B*l.sum
 |[],_=>by show(0:Int).natAbs<=_;omega
 |x::r,h=>by
  have h0:=h 0 (by simp)
  have ih:=bU (fun k=>f (k+1)) B r fun k hk=>h (k+1) (by simpa using hk)
  show((x:Int)*f 0+S (fun k=>f (k+1)) r).natAbs<=_
  rw[List.sum_cons,Nat.mul_add]
  have h1:((x:Int)*f 0).natAbs<=B*x:=by
   rw[Int.natAbs_mul,Int.natAbs_natCast,Nat.mul_comm]
   exact Nat.mul_le_mul_right _ h0
  omega
end Dm
namespace Fd
open PySem PySem.Spec PyProof.Rows L2
theorem Ip.JO (h:Ip H xs Q)(s:AK H H1):Ip H1 xs Q:=fun p H' s' n e=>h p H' (s.trans s') (s.free n) e
def Eh (a:Ad)(H:Hp)(l:Addr)(pss:List (List Vbrgag.Part)):Prop:=∃ls:List Addr,H l=some (.lst (ls.map V.ref))/\Paired (fun x ps=>Bb a H x ps/\ps.length<=3/\∀p∈ps,Dm.Fits p) ls pss
theorem Eh.same (h:Eh a H l pss)(s:AK H H'):Eh a H' l pss:=by
 obtain⟨ls,e,p⟩:=h
 exact⟨ls,s _ _ e,pim p fun x q h=>⟨h.1.same s,h.2⟩⟩
def OF:Nat->List Int->List (List Vbrgag.Part)->Option (List Int)
 |0,[],[ps]=>some [(ps.length:Int)]
 |1,[],[ps]=>some (Vbrgag.write ps)
 |2,[],[ps]=>some ((Vbrgag.distOf ps).low::((Vbrgag.distOf ps).counts.map fun(n:Nat)=>(n:Int)))
 |3,[v],[ps]=>some (Vbrgag.frac (Vbrgag.atLeast (Vbrgag.distOf ps) v:Int) ((Vbrgag.distOf ps).total:Int))
 |4,[],[ps,qs]=>some (Vbrgag.frac (Vbrgag.atLeast (Dm.Cw ps qs) 1:Int) ((Dm.Cw ps qs).total:Int)++Vbrgag.frac ((Dm.Cw ps qs).at_ 0:Int) ((Dm.Cw ps qs).total:Int))
 |5,[],[ps]=>some (Vbrgag.frac (Vbrgag.moment (Vbrgag.distOf ps) fun v=>v) ((Vbrgag.distOf ps).total:Int)++Vbrgag.frac (Vbrgag.moment (Vbrgag.distOf ps) (fun v=>v*v)*((Vbrgag.distOf ps).total:Int) - (Vbrgag.moment (Vbrgag.distOf ps) fun v=>v)*(Vbrgag.moment (Vbrgag.distOf ps) fun v=>v)) (((Vbrgag.distOf ps).total:Int)*((Vbrgag.distOf ps).total:Int)))
 |6,[z,k,m],[ps]=>if 0<=z/\0<=k/\m<=20/\0<=m then some (Vbrgag.rollsOf ps m.toNat (Vbrgag.stream z.toNat k.toNat))else none
 |_,_,_=>none
theorem gT (h:OF 0 ns pss=some ans):∃ps,ns=[]/\pss=[ps]/\ans=[(ps.length:Int)]:=by
 match ns,pss,h with
 |[],[ps],h=>exact⟨ps,rfl,rfl,(Option.some.inj h).symm⟩
theorem gU (h:OF 1 ns pss=some ans):∃ps,ns=[]/\pss=[ps]/\ans=Vbrgag.write ps:=by
 match ns,pss,h with
 |[],[ps],h=>exact⟨ps,rfl,rfl,(Option.some.inj h).symm⟩
theorem gW (h:OF 2 ns pss=some ans):∃ps,ns=[]/\pss=[ps]/\ans=((Vbrgag.distOf ps).low::((Vbrgag.distOf ps).counts.map fun(n:Nat)=>(n:Int))):=by
 match ns,pss,h with
 |[],[ps],h=>exact⟨ps,rfl,rfl,(Option.some.inj h).symm⟩
theorem gX (h:OF 3 ns pss=some ans):∃v ps,ns=[v]/\pss=[ps]/\ans=Vbrgag.frac (Vbrgag.atLeast (Vbrgag.distOf ps) v:Int) ((Vbrgag.distOf ps).total:Int):=by
 match ns,pss,h with
 |[v],[ps],h=>exact⟨v,ps,rfl,rfl,(Option.some.inj h).symm⟩
theorem gM (h:OF 4 ns pss=some ans):∃ps qs,ns=[]/\pss=[ps,qs]/\ans=Vbrgag.frac (Vbrgag.atLeast (Dm.Cw ps qs) 1:Int) ((Dm.Cw ps qs).total:Int)++Vbrgag.frac ((Dm.Cw ps qs).at_ 0:Int) ((Dm.Cw ps qs).total:Int):=by
 match ns,pss,h with
 |[],[ps,qs],h=>exact⟨ps,qs,rfl,rfl,(Option.some.inj h).symm⟩
theorem gO (h:OF 5 ns pss=some ans):∃ps,ns=[]/\pss=[ps]/\ans=(Vbrgag.frac (Vbrgag.moment (Vbrgag.distOf ps) fun v=>v) ((Vbrgag.distOf ps).total:Int)++Vbrgag.frac (Vbrgag.moment (Vbrgag.distOf ps) (fun v=>v*v)*((Vbrgag.distOf ps).total:Int) - (Vbrgag.moment (Vbrgag.distOf ps) fun v=>v)*(Vbrgag.moment (Vbrgag.distOf ps) fun v=>v)) (((Vbrgag.distOf ps).total:Int)*((Vbrgag.distOf ps).total:Int))):=by
 match ns,pss,h with
 |[],[ps],h=>exact⟨ps,rfl,rfl,(Option.some.inj h).symm⟩
theorem gQ (h:OF 6 ns pss=some ans):∃z k m ps,ns=[z,k,m]/\pss=[ps]/\(0<=z/\0<=k/\m<=20/\0<=m)/\ans=Vbrgag.rollsOf ps m.toNat (Vbrgag.stream z.toNat k.toNat):=by
 match ns,pss,h with
 |[z,k,m],[ps],h=>
  have h:(if 0<=z/\0<=k/\m<=20/\0<=m then some (Vbrgag.rollsOf ps m.toNat (Vbrgag.stream z.toNat k.toNat))else none)=some ans:=h
  by_cases c:0<=z/\0<=k/\m<=20/\0<=m
  ·rw[if_pos c]at h
   exact⟨z,k,m,ps,rfl,rfl,c,(Option.some.inj h).symm⟩
  ·rw[if_neg c]at h
   cases h
def MF (a:Ad)(c:Nat):Sp:=fun vs H Q _=>∃nl tl ns pss ans,vs=[.ref nl,.ref tl]/\H nl=some (.lst (iv ns))/\Eh a H tl pss/\OF c ns pss=some ans/\Ip H (iv ans) Q
section
variable {P:Program}{w:World}{K:PySem.W.Frag}{mg:Str->Option Value}{base:Heap}{a:Ad}
theorem D1 {H:Hp}{l:Addr}{pss:List (List Vbrgag.Part)}{i:Nat}{ps:List Vbrgag.Part}{σ:L2.St}{n:Nat}(h:Eh a H l pss)(hi:pss[i]? =some ps)(e:σ[n]? =some (some (.ref l))):
  ∃x,Gives (tOp (N0 K) (Ae n) (tC (.int i))) σ H (.ref x)/\Bb a H x ps/\ps.length<=3/\∀p∈ps,Dm.Fits p:=by
 obtain⟨ls,el,pp⟩:=h
 obtain⟨x,hx,h1⟩:=Paired.at_ pp hi
 exact⟨x,Fc (AQ e) Ax (SqL.of el) (by rw[List.getElem?_map,hx];rfl),h1⟩
theorem mS:AL ["numbers","texts"] ["numbers","texts"] (AG J4):=⟨rfl,rfl,rfl,by decide +kernel,rfl,by decide +kernel,by decide +kernel⟩
theorem l8 (T:Tx K mg a):Fn P w K mg base CX0 1 a.Ea ["numbers","texts"] (MF a 0):=by
 obtain⟨fd,F,hb⟩:=T.WQ
 refine F.fn hb mS (fun vs H Q E h=>?_) (fun cdv A outer s H vs Q E hr h=>?_)
 ·obtain⟨nl,tl,ns,pss,ans,rfl,_⟩:=h
  rfl
 ·obtain⟨nl,tl,ns,pss,ans,rfl,hn,ht,ha,k⟩:=h
  refine⟨_,AF (AO (An (AA (AZ Ai rfl T.EJ CU (AA (Aa AR (pv 1) AH (fun _ _=>rfl)) AE)) AE))),?_⟩
  obtain⟨ps,rfl,rfl,rfl⟩:=gT ha
  obtain⟨x,g,⟨as,e,pp⟩,_⟩:=D1 (K:=K) (i:=0) (n:=1) (σ:=[some (.ref nl),some (.ref tl)]) ht rfl rfl
  have las:as.length=ps.length:=Paired.length pp
  refine g _ ⟨x,_,rfl,.inl (SqL.of e),(by show 1<=sizeLine;decide),fun l hl=>?_⟩
  rw[List.length_map,las]
  exact k.upd (AK.refl H) hl
theorem mT:AL ["numbers","texts"] ["numbers","texts"] (AG J5):=⟨rfl,rfl,rfl,by decide +kernel,rfl,by decide +kernel,by decide +kernel⟩
theorem l9 (T:Tx K mg a):Fn P w K mg base CX0 4 a.Eb ["numbers","texts"] (MF a 1):=by
 obtain⟨fd,F,hb⟩:=T.WR
 refine F.fn hb mT (fun vs H Q E h=>?_) (fun cdv A outer s H vs Q E hr h=>?_)
 ·obtain⟨nl,tl,ns,pss,ans,rfl,_⟩:=h
  rfl
 ·obtain⟨nl,tl,ns,pss,ans,rfl,hn,ht,ha,k⟩:=h
  obtain⟨ps,rfl,rfl,rfl⟩:=gU ha
  refine⟨_,AF (AO (Ac (iQ T) hr rfl T.Xp AU (AA (Aa AR (pv 1) AH (fun _ _=>rfl)) AE))),?_⟩
  obtain⟨x,g,h1,h2,h3⟩:=D1 (K:=K) (i:=0) (n:=1) (σ:=[some (.ref nl),some (.ref tl)]) ht rfl rfl
  exact fn_ (AV g (Bi ⟨x,ps,rfl,h1,h2,h3,k⟩))
theorem iE:AL ["numbers","texts","spread"] ["numbers","texts"] (AG J7):=⟨rfl,rfl,rfl,by decide +kernel,rfl,by decide +kernel,by decide +kernel⟩
theorem mB (T:Tx K mg a):Fn P w K mg base CX0 7 a.Ec ["numbers","texts"] (MF a 2):=by
 obtain⟨fd,F,hb⟩:=T.WS
 refine F.fn hb iE (fun vs H Q E h=>?_) (fun cdv A outer s H vs Q E hr h=>?_)
 ·obtain⟨nl,tl,ns,pss,ans,rfl,_⟩:=h
  rfl
 ·obtain⟨nl,tl,ns,pss,ans,rfl,hn,ht,ha,k⟩:=h
  obtain⟨ps,rfl,rfl,rfl⟩:=gW ha
  have nd:=iE.nd
  refine⟨_,AD (AN (i:=2) nd rfl (Or.inl rfl) (Ac (Nb T) hr rfl T.Be AU (AA (Aa AR (pv 1) AH (fun _ _=>rfl)) AE)))
   (AF (AO (AS JU (An (AA (AJ (pv 2) rfl) AE)) (AJ (pv 2) rfl)))),?_⟩
  obtain⟨x,g,h1,h2,h3⟩:=D1 (K:=K) (i:=0) (n:=1) (σ:=[some (.ref nl),some (.ref tl),none]) ht rfl rfl
  have few:=Dm.DF h3
  refine sq_ (g _ ⟨x,ps,rfl,h1,h2,h3,fun r H1 s1 ⟨c,⟨dx,hx⟩,hc⟩=>?_⟩)
  refine⟨_,rfl,r,a.Ao,dx,_,_,rfl,hx,T.AY,T.A5,rfl,(by show 1<=sizeLine;decide),fun l hl=>?_⟩
  have s2:=AK.new (o:=.lst [.int (Vbrgag.distOf ps).low]) hl
  refine⟨_,rfl,r,a.Ao,dx,_,_,rfl,s2 _ _ hx,T.AY,T.Ab,rfl,l,c,_,_,rfl,rfl,AB,s2 _ _ hc,?_,fun p hp=>?_⟩
  ·rw[Ar]
   have:=few.len
   have hs:sizeLine=16777216:=sizeLine_eq
   show 1+_<=_
   omega
  ·exact k.upd (s1.trans s2) hp
theorem iF:AL ["numbers","texts","spread"] ["numbers","texts"] (AG HU):=⟨rfl,rfl,rfl,by decide +kernel,rfl,by decide +kernel,by decide +kernel⟩
theorem M3 (h:Dm.Few n d)(hn:n<=3):Bd 127 d.total:=by
 have h1:2 ^ (42*n)<=2 ^ 126:=Nat.pow_le_pow_right (by decide) (by omega)
 exact Nat.lt_of_le_of_lt (Nat.le_trans h.tot h1) (by decide)
theorem mC (T:Tx K mg a):Fn P w K mg base CX0 7 a.Cu ["numbers","texts"] (MF a 3):=by
 obtain⟨fd,F,hb⟩:=T.RV
 refine F.fn hb iF (fun vs H Q E h=>?_) (fun cdv A outer s H vs Q E hr h=>?_)
 ·obtain⟨nl,tl,ns,pss,ans,rfl,_⟩:=h
  rfl
 ·obtain⟨nl,tl,ns,pss,ans,rfl,hn,ht,ha,k⟩:=h
  obtain⟨v,ps,rfl,rfl,rfl⟩:=gX ha
  have nd:=iF.nd
  refine⟨_,AD (AN (i:=2) nd rfl (Or.inl rfl) (Ac (Nb T) hr rfl T.Be AU (AA (Aa AR (pv 1) AH (fun _ _=>rfl)) AE)))
   (AF (AO (Ac (Og T) hr rfl T.Bh AU (AA (B4 (pv 2) T.AY T.C7 (HB T) hr AU (AA (Aa AR (pv 0) AH (fun _ _=>rfl)) AE)) (AA (Ck (pv 2) T.AY T.B9 (He T) hr AU) AE))))),?_⟩
  obtain⟨x,g,h1,h2,h3⟩:=D1 (K:=K) (i:=0) (n:=1) (σ:=[some (.ref nl),some (.ref tl),none]) ht rfl rfl
  have few:=Dm.DF h3
  refine sq_ (g _ ⟨x,ps,rfl,h1,h2,h3,fun r H1 s1 hr1=>?_⟩)
  obtain⟨c,⟨dx,hx⟩,hc⟩:=id hr1
  refine⟨_,rfl,r,dx,_,rfl,hx,rfl,Fc (K:=K) (n:=0) (v:=.int v) (AQ rfl) Ax (SqL.of (s1 _ _ hn)) rfl _ ?_⟩
  refine⟨r,_,v,rfl,hr1,fun H2 s2=>?_⟩
  refine⟨_,rfl,r,dx,_,rfl,s2 _ _ hx,rfl,r,_,rfl,hr1.same s2,?_⟩
  exact⟨_,_,rfl,few.pos,(M3 few h2).more (by decide),Ip.JO k (s1.trans s2)⟩
end
theorem D8 (x d:Int):(Vbrgag.frac x d).length=2:=by
 unfold Vbrgag.frac
 dsimp only
 split
 ·rfl
 ·split <;> rfl
section
variable {P:Program}{w:World}{K:PySem.W.Frag}{mg:Str->Option Value}{base:Heap}{a:Ad}
theorem lU (d:Vbrgag.Dist)(v:Int):d.at_ v<=d.total:=by
 unfold Vbrgag.Dist.at_ Vbrgag.Dist.total
 rw[Dm.B1]
 split
 ·exact Nat.zero_le _
 ·rw[List.getD_eq_getElem?_getD]
  cases h:d.counts[(v - d.low).toNat]? with
  |none=>exact Nat.zero_le _
  |some x=>exact DZ h
theorem bS (d:Vbrgag.Dist)(v:Int):Dm.below d v<=d.total:=by
 unfold Dm.below Vbrgag.Dist.total
 rw[Dm.B1,Dm.B1]
 have h:(d.counts.take (v - d.low).toNat).sum+(d.counts.drop (v - d.low).toNat).sum=d.counts.sum:=by rw[<-List.sum_append,List.take_append_drop]
 omega
theorem count_le {d:Vbrgag.Dist}{i x:Nat}(h:d.counts[i]? =some x):x<=d.total:=by
 unfold Vbrgag.Dist.total
 rw[Dm.B1]
 exact DZ h
theorem gL:AL ["numbers","texts","one","other","above","same","place","ways","value","rolls"] ["numbers","texts"] (AG IJ):=⟨rfl,rfl,rfl,by decide +kernel,rfl,by decide +kernel,by decide +kernel⟩
theorem lV (T:Tx K mg a):Fn P w K mg base CX0 7 a.Dd ["numbers","texts"] (MF a 4):=by
 obtain⟨fd,F,hb⟩:=T.UK
 refine F.fn hb gL (fun vs H Q E h=>?_) (fun cdv A outer s H vs Q E hr h=>?_)
 ·obtain⟨nl,tl,ns,pss,ans,rfl,_⟩:=h
  rfl
 ·obtain⟨nl,tl,ns,pss,ans,rfl,hn,ht,ha,k⟩:=h
  obtain⟨ps,qs,rfl,rfl,rfl⟩:=gM ha
  have nd:=gL.nd
  refine⟨_,AD (AN (i:=2) nd rfl (Or.inl rfl) (Ac (Nb T) hr rfl T.Be AU (AA (Aa AR (pv 1) AH (fun _ _=>rfl)) AE)))
   (AD (AN (i:=3) nd rfl (Or.inl rfl) (Ac (Nb T) hr rfl T.Be AU (AA (Aa AR (pv 1) AH (fun _ _=>rfl)) AE)))
   (AD (AN (i:=4) nd rfl (Or.inl rfl) AH)
   (AD (AN (i:=5) nd rfl (Or.inl rfl) AH)
   (AD (BD PassesOwn.never rfl (KJ rfl T.Dj (AA (AJ (pv 2) rfl) AE)) (Hw rfl (BL (AX (i:=6) nd rfl (Or.inl rfl)) (BL (AX (i:=7) nd rfl (Or.inl rfl)) FC)))
    (AD (AN (i:=8) nd rfl (Or.inl rfl) (AS Ba (AJ (pv 2) rfl) (pv 6)))
    (AD (LH (i:=4) nd rfl (Or.inl rfl) (AS BK (pv 7) (B4 (pv 3) T.AY T.Ex (Jb T) hr AU (AA (pv 8) AE))) G6)
    (AF (LH (i:=5) nd rfl (Or.inl rfl) (AS BK (pv 7) (B4 (pv 3) T.AY T.GZ (Ni T) hr AU (AA (pv 8) AE))) G6)))))
   (AD (AN (i:=9) nd rfl (Or.inl rfl) (AS BK (Ck (pv 2) T.AY T.B9 (He T) hr AU) (Ck (pv 3) T.AY T.B9 (He T) hr AU)))
   (AF (AO (AS JU (Ac (Og T) hr rfl T.Bh AU (AA (pv 4) (AA (pv 9) AE))) (Ac (Og T) hr rfl T.Bh AU (AA (pv 5) (AA (pv 9) AE))))))))))),?_⟩
  obtain⟨x,g,h1,h2,h3⟩:=D1 (K:=K) (i:=0) (n:=1) (σ:=[some (.ref nl),some (.ref tl),none,none,none,none,none,none,none,none]) ht rfl rfl
  have few1:=Dm.DF h3
  have bd1:=M3 few1 h2
  refine sq_ (g _ ⟨x,ps,rfl,h1,h2,h3,fun r H1 s1 hr1=>?_⟩)
  obtain⟨x',g',h1',h2',h3'⟩:=D1 (K:=K) (i:=1) (n:=1) (σ:=[some (.ref nl),some (.ref tl),some (.ref r),none,none,none,none,none,none,none]) (ht.same s1) rfl rfl
  have few2:=Dm.DF h3'
  have bd2:=M3 few2 h2'
  refine sq_ (g' _ ⟨x',qs,rfl,h1',h2',h3',fun q H2 s2 hq2=>?_⟩)
  have hr2:=hr1.same s2
  obtain⟨c,⟨dx,hx⟩,hc⟩:=id hr2
  obtain⟨c',⟨dx',hx'⟩,hc'⟩:=id hq2
  have e1:=Dm.Qi ps qs
  have e2:=Dm.S5 ps qs
  have e3:=Dm.Qj ps qs
  generalize Vbrgag.distOf ps=d at few1 bd1 hr1 hr2 hx hc e1 e2 e3
  generalize Vbrgag.distOf qs=e at few2 bd2 hq2 hx' hc' e1 e2 e3
  refine sq_ (E2 Ax (sq_ (E2 Ax (sq_ ?_))))
  refine⟨_,rfl,r,a.Ao,dx,_,_,rfl,hx,T.AY,T.Ab,rfl,c,_,rfl,SqL.of hc,HX (K:=K) (a:=c) (xs:=nv d.counts)
   (fun i σ H'=>∃v6 v7 v8:Option V,σ=[some (.ref nl),some (.ref tl),some (.ref r),some (.ref q),some (.int (Dm.S (fun k=>(Dm.below e (d.low+(k:Int)):Int)) (d.counts.take i))),some (.int (Dm.S (fun k=>(e.at_ (d.low+(k:Int)):Int)) (d.counts.take i))),v6,v7,v8,none]/\AK H2 H')
   ⟨none,none,none,rfl,AK.refl _⟩ (fun i σ H' _ ⟨_,_,_,_,s3⟩=>SqL.of (s3 _ _ hc)) ?_ ?_⟩
  ·rintro i v σ H' T1 hi ⟨v6,v7,v8,rfl,s3⟩ hT1
   obtain⟨y,hy,rfl⟩:=NO hi
   have s4:AK H2 (upd H' T1 (.tup [.int (i:Nat),.int y])):=s3.trans (.new hT1)
   refine⟨T1,_,rfl,SqT.of AB,rfl,_,_,rfl,_,_,rfl,rfl,?_⟩
   generalize upd H' T1 (.tup [.int (i:Nat),.int y])=H3 at s4
   have cw1:CW (y:Int) (Dm.below e (d.low+(i:Int)):Int):=(bd1.mono (count_le hy)).cw (bd2.mono (bS _ _)) (by decide)
   have cw2:CW (y:Int) (e.at_ (d.low+(i:Int)):Int):=(bd1.mono (count_le hy)).cw (bd2.mono (lU _ _)) (by decide)
   refine⟨_,rfl,r,a.Ao,dx,_,_,rfl,s4 _ _ hx,T.AY,T.A5,rfl,_,rfl,_,_,rfl,rfl,?_⟩
   refine⟨_,rfl,_,rfl,_,rfl,q,dx',_,rfl,s4 _ _ hx',rfl,_,rfl,q,e,d.low+(i:Int),rfl,hq2.same s4,fun H4 s5=>?_⟩
   refine⟨_,_,rfl,rfl,cw1,_,_,rfl,rfl,?_⟩
   refine⟨_,rfl,_,rfl,_,rfl,q,dx',_,rfl,s5 _ _ (s4 _ _ hx'),rfl,_,rfl,q,e,d.low+(i:Int),rfl,hq2.same (s4.trans s5),?_⟩
   refine⟨_,_,rfl,rfl,cw2,_,_,rfl,rfl,?_⟩
   refine⟨some (.int (i:Nat)),some (.int y),some (.int (d.low+(i:Int))),?_,s4.trans s5⟩
   rw[<-Dm.UL _ hy _ rfl,<-Dm.UL _ hy _ rfl]
   rfl
  ·rintro σ H' ⟨v6,v7,v8,rfl,s3⟩
   rw[Ar,List.take_length]
   refine⟨_,rfl,r,dx,_,rfl,s3 _ _ hx,rfl,r,d,rfl,hr2.same s3,?_⟩
   refine⟨_,rfl,q,dx',_,rfl,s3 _ _ hx',rfl,q,e,rfl,hq2.same s3,?_⟩
   refine⟨_,_,rfl,rfl,bd1.cw bd2 (by decide),?_⟩
   have et:((d.total:Nat):Int)*((e.total:Nat):Int)=((d.total*e.total:Nat):Int):=by push_cast;rfl
   have pos:0<d.total*e.total:=Nat.mul_pos few1.pos few2.pos
   have bdm:Bd 9000 (d.total*e.total):=(bd1.mul bd2).more (by decide)
   refine⟨_,rfl,_,rfl,Dm.S (fun k=>(Dm.below e (d.low+(k:Int)):Int)) d.counts,d.total*e.total,congrArg (fun z=>[V.int (Dm.S (fun k=>(Dm.below e (d.low+(k:Int)):Int)) d.counts),V.int z]) et,pos,bdm,fun l1 H4 s4 _ el1=>?_⟩
   refine⟨_,rfl,_,rfl,Dm.S (fun k=>(e.at_ (d.low+(k:Int)):Int)) d.counts,d.total*e.total,congrArg (fun z=>[V.int (Dm.S (fun k=>(e.at_ (d.low+(k:Int)):Int)) d.counts),V.int z]) et,pos,bdm,fun l2 H5 s5 _ el2=>?_⟩
   refine⟨l1,l2,_,_,rfl,rfl,s5 _ _ el1,el2,?_,fun p hp=>?_⟩
   ·rw[Ay,Ay,D8,D8,sizeLine_eq];decide
   ·have q:=k.upd (s1.trans (s2.trans (s3.trans (s4.trans s5)))) hp
    rw[<-DU,e1,e2,e3,et]at q
    exact q
theorem gN:AL ["numbers","texts","spread","rolls","total","squares","place","ways","value"] ["numbers","texts"] (AG Jp):=⟨rfl,rfl,rfl,by decide +kernel,rfl,by decide +kernel,by decide +kernel⟩
theorem UM (h:m+n<=9000)(hx:x.natAbs<2 ^ m)(hy:y.natAbs<2 ^ n):CW x y:=⟨m,n,h,hx,hy⟩
theorem lW (T:Tx K mg a):Fn P w K mg base CX0 7 a.EY ["numbers","texts"] (MF a 5):=by
 obtain⟨fd,F,hb⟩:=T.V9
 refine F.fn hb gN (fun vs H Q E h=>?_) (fun cdv A outer s H vs Q E hr h=>?_)
 ·obtain⟨nl,tl,ns,pss,ans,rfl,_⟩:=h
  rfl
 ·obtain⟨nl,tl,ns,pss,ans,rfl,hn,ht,ha,k⟩:=h
  obtain⟨ps,rfl,rfl,rfl⟩:=gO ha
  have nd:=gN.nd
  refine⟨_,AD (AN (i:=2) nd rfl (Or.inl rfl) (Ac (Nb T) hr rfl T.Be AU (AA (Aa AR (pv 1) AH (fun _ _=>rfl)) AE)))
   (AD (AN (i:=3) nd rfl (Or.inl rfl) (Ck (pv 2) T.AY T.B9 (He T) hr AU))
   (AD (AN (i:=4) nd rfl (Or.inl rfl) AH)
   (AD (AN (i:=5) nd rfl (Or.inl rfl) AH)
   (AD (BD PassesOwn.never rfl (KJ rfl T.Dj (AA (AJ (pv 2) rfl) AE)) (Hw rfl (BL (AX (i:=6) nd rfl (Or.inl rfl)) (BL (AX (i:=7) nd rfl (Or.inl rfl)) FC)))
    (AD (AN (i:=8) nd rfl (Or.inl rfl) (AS Ba (AJ (pv 2) rfl) (pv 6)))
    (AD (LH (i:=4) nd rfl (Or.inl rfl) (AS BK (pv 7) (pv 8)) G6)
    (AF (LH (i:=5) nd rfl (Or.inl rfl) (AS BK (AS BK (pv 7) (pv 8)) (pv 8)) G6)))))
   (AF (AO (AS JU (Ac (Og T) hr rfl T.Bh AU (AA (pv 4) (AA (pv 3) AE))) (Ac (Og T) hr rfl T.Bh AU (AA (AS Bm (AS BK (pv 3) (pv 5)) (AS BK (pv 4) (pv 4))) (AA (AS BK (pv 3) (pv 3)) AE)))))))))),?_⟩
  obtain⟨x,g,h1,h2,h3⟩:=D1 (K:=K) (i:=0) (n:=1) (σ:=[some (.ref nl),some (.ref tl),none,none,none,none,none,none,none]) ht rfl rfl
  have few1:=Dm.DF h3
  have bd1:=M3 few1 h2
  have low:=Dm.bT h3 h2
  have len:=few1.len
  refine sq_ (g _ ⟨x,ps,rfl,h1,h2,h3,fun r H1 s1 hr1=>?_⟩)
  obtain⟨c,⟨dx,hx⟩,hc⟩:=id hr1
  rw[Dm.So,Dm.So]at k
  have ZZ:(Vbrgag.distOf ps).counts.length<=361:=by omega
  clear len ha
  generalize Vbrgag.distOf ps=d at few1 bd1 hr1 hx hc low k ZZ
  have vb:∀i:Nat,i<d.counts.length->(d.low+(i:Int)).natAbs<=2000:=fun i hi=>by omega
  have sm:∀i,(Dm.S (fun k=>d.low+(k:Int)) (d.counts.take i)).natAbs<2 ^ 200:=fun i=>by
   have h:=Dm.bU (fun k=>d.low+(k:Int)) 2000 (d.counts.take i) fun k hk=>vb k (Nat.lt_of_lt_of_le hk (by rw[List.length_take];exact Nat.min_le_right _ _))
   have ht:(d.counts.take i).sum<=d.total:=by
    unfold Vbrgag.Dist.total
    rw[Dm.B1]
    have h:(d.counts.take i).sum+(d.counts.drop i).sum=d.counts.sum:=by rw[<-List.sum_append,List.take_append_drop]
    omega
   have b:=Nat.mul_le_mul_left 2000 ht
   have b2:2000*d.total<2000*2 ^ 127:=Nat.mul_lt_mul_of_pos_left bd1 (by decide)
   exact Nat.lt_of_le_of_lt h (Nat.lt_of_le_of_lt b (Nat.lt_trans b2 (by decide)))
  have sq:∀i,(Dm.S (fun k=>(d.low+(k:Int))*(d.low+(k:Int))) (d.counts.take i)).natAbs<2 ^ 200:=fun i=>by
   have h:=Dm.bU (fun k=>(d.low+(k:Int))*(d.low+(k:Int))) 4000000 (d.counts.take i) fun k hk=>by
    have:=vb k (Nat.lt_of_lt_of_le hk (by rw[List.length_take];exact Nat.min_le_right _ _))
    rw[Int.natAbs_mul]
    exact Nat.mul_le_mul this this
   have ht:(d.counts.take i).sum<=d.total:=by
    unfold Vbrgag.Dist.total
    rw[Dm.B1]
    have h:(d.counts.take i).sum+(d.counts.drop i).sum=d.counts.sum:=by rw[<-List.sum_append,List.take_append_drop]
    omega
   have b:=Nat.mul_le_mul_left 4000000 ht
   have b2:4000000*d.total<4000000*2 ^ 127:=Nat.mul_lt_mul_of_pos_left bd1 (by decide)
   exact Nat.lt_of_le_of_lt h (Nat.lt_of_le_of_lt b (Nat.lt_trans b2 (by decide)))
  refine⟨_,rfl,r,dx,_,rfl,hx,rfl,r,d,rfl,hr1,?_⟩
  refine sq_ (E2 Ax (sq_ (E2 Ax (sq_ ?_))))
  refine⟨_,rfl,r,a.Ao,dx,_,_,rfl,hx,T.AY,T.Ab,rfl,c,_,rfl,SqL.of hc,HX (K:=K) (a:=c) (xs:=nv d.counts)
   (fun i σ H'=>∃v6 v7 v8:Option V,σ=[some (.ref nl),some (.ref tl),some (.ref r),some (.int (d.total:Nat)),some (.int (Dm.S (fun k=>d.low+(k:Int)) (d.counts.take i))),some (.int (Dm.S (fun k=>(d.low+(k:Int))*(d.low+(k:Int))) (d.counts.take i))),v6,v7,v8]/\AK H1 H')
   ⟨none,none,none,rfl,AK.refl _⟩ (fun i σ H' _ ⟨_,_,_,_,s3⟩=>SqL.of (s3 _ _ hc)) ?_ ?_⟩
  ·rintro i v σ H' T1 hi ⟨v6,v7,v8,rfl,s3⟩ hT1
   obtain⟨y,hy,rfl⟩:=NO hi
   have s4:AK H1 (upd H' T1 (.tup [.int (i:Nat),.int y])):=s3.trans (.new hT1)
   refine⟨T1,_,rfl,SqT.of AB,rfl,_,_,rfl,_,_,rfl,rfl,?_⟩
   generalize upd H' T1 (.tup [.int (i:Nat),.int y])=H3 at s4
   have hil:=(List.getElem?_eq_some_iff.mp hy).1
   have v1:=vb i hil
   have y1:y<2 ^ 127:=bd1.mono (count_le hy)
   have cw1:CW (y:Int) (d.low+(i:Int)):=UM (m:=127) (n:=20) (by decide) y1 (by omega)
   have cw2:CW ((y:Int)*(d.low+(i:Int))) (d.low+(i:Int)):=UM (m:=147) (n:=20) (by decide) (by
    rw[Int.natAbs_mul,Int.natAbs_natCast,show(2:Nat) ^ 147=2 ^ 127*2 ^ 20 by decide]
    exact Nat.mul_lt_mul_of_lt_of_lt y1 (by omega)) (by omega)
   refine⟨_,rfl,r,a.Ao,dx,_,_,rfl,s4 _ _ hx,T.AY,T.A5,rfl,_,rfl,_,_,rfl,rfl,?_⟩
   refine⟨_,rfl,_,rfl,_,rfl,_,_,rfl,rfl,cw1,_,_,rfl,rfl,?_⟩
   refine⟨_,rfl,_,rfl,_,rfl,_,_,rfl,rfl,cw1,_,rfl,_,_,rfl,rfl,cw2,_,_,rfl,rfl,?_⟩
   refine⟨some (.int (i:Nat)),some (.int y),some (.int (d.low+(i:Int))),?_,s4⟩
   rw[<-Dm.UL _ hy _ rfl,<-Dm.UL _ hy _ rfl,<-Int.mul_assoc]
   rfl
  ·rintro σ H' ⟨v6,v7,v8,rfl,s3⟩
   have sm1:=sm d.counts.length
   have sq1:=sq d.counts.length
   rw[List.take_length]at sm1 sq1
   rw[Ar,List.take_length]
   have em:Dm.E d (fun v=>v)=Dm.S (fun k=>d.low+(k:Int)) d.counts:=rfl
   have eq:Dm.E d (fun v=>v*v)=Dm.S (fun k=>(d.low+(k:Int))*(d.low+(k:Int))) d.counts:=rfl
   rw[em,eq]at k
   generalize Dm.S (fun k=>d.low+(k:Int)) d.counts=m at sm1 k
   generalize Dm.S (fun k=>(d.low+(k:Int))*(d.low+(k:Int))) d.counts=q at sq1 k
   have et:((d.total:Nat):Int)*((d.total:Nat):Int)=((d.total*d.total:Nat):Int):=by push_cast;rfl
   refine⟨_,rfl,_,rfl,m,d.total,rfl,few1.pos,bd1.more (by decide),fun l1 H4 s4 _ el1=>?_⟩
   refine⟨_,rfl,_,rfl,_,_,rfl,rfl,UM (m:=127) (n:=200) (by decide) bd1 sq1,_,rfl,_,rfl,_,_,rfl,rfl,UM (m:=200) (n:=200) (by decide) sm1 sm1,_,_,rfl,rfl,?_⟩
   refine⟨_,rfl,_,rfl,_,_,rfl,rfl,bd1.cw bd1 (by decide),?_⟩
   refine⟨(d.total:Int)*q - m*m,d.total*d.total,congrArg (fun z=>[V.int ((d.total:Int)*q - m*m),V.int z]) et,Nat.mul_pos few1.pos few1.pos,(bd1.mul bd1).more (by decide),fun l2 H5 s5 _ el2=>?_⟩
   refine⟨l1,l2,_,_,rfl,rfl,s5 _ _ el1,el2,?_,fun p hp=>?_⟩
   ·rw[Ay,Ay,D8,D8,sizeLine_eq];decide
   ·have z:=k.upd (s1.trans (s3.trans (s4.trans s5))) hp
    rw[<-DU,et,Int.mul_comm q]at z
    exact z
theorem gP:AL ["numbers","texts","stream","values","turn"] ["numbers","texts"] (AG Jq):=⟨rfl,rfl,rfl,by decide +kernel,rfl,by decide +kernel,by decide +kernel⟩
theorem lX (T:Tx K mg a):Fn P w K mg base CX0 5 a.EZ ["numbers","texts"] (MF a 6):=by
 obtain⟨fd,F,hb⟩:=T.WA
 refine F.fn hb gP (fun vs H Q E h=>?_) (fun cdv A outer s H vs Q E hr h=>?_)
 ·obtain⟨nl,tl,ns,pss,ans,rfl,_⟩:=h
  rfl
 ·obtain⟨nl,tl,ns,pss,ans,rfl,hn,ht,ha,k⟩:=h
  obtain⟨z,kn,m,ps,rfl,rfl,⟨hz,hk,hm,hm0⟩,rfl⟩:=gQ ha
  have nd:=gP.nd
  have hs:sizeLine=16777216:=sizeLine_eq
  refine⟨_,AD (AN (i:=2) nd rfl (Or.inl rfl) (Dv T.bV (Pt T) hr rfl T.bW AU (AA (Aa AR (pv 0) AH (fun _ _=>rfl)) (AA (Aa AR (pv 0) AH (fun _ _=>rfl)) AE))))
   (AD (AN (i:=3) nd rfl (Or.inl rfl) (An AE))
   (AD (BD PassesOwn.never rfl (Bo rfl T.Cc (AA (Aa AR (pv 0) AH (fun _ _=>rfl)) AE)) (AX (i:=4) nd rfl (Or.inl rfl))
    (AF (Az (DD PySem.F.plainAttrs_list PySem.F.slot_list_append PySem.F.type_list_append BM (pv 3) (AA (Ac (kj T) hr rfl T.Pu AU (AA (Aa AR (pv 1) AH (fun _ _=>rfl)) (AA (pv 2) AE))) AE)))))
   (AF (AO (pv 3))))),?_⟩
  have gn:∀(σ:L2.St) (H':Hp) (i:Nat) (v:Int),σ[0]? =some (some (.ref nl))->H' nl=some (.lst (iv [z,kn,m]))->[z,kn,m][i]? =some v->Gives (tOp (N0 K) (Ae 0) (tC (.int i))) σ H' (.int v):=fun σ H' i v e h1 h2=>Fc (AQ e) Ax (SqL.of h1) (SQ h2)
  have ez:z=((z.toNat:Nat):Int):=by omega
  have ek:kn=((kn.toNat:Nat):Int):=by omega
  refine sq_ (mk_ (AV (gn _ H 0 z rfl hn rfl) (AV (gn _ H 1 kn rfl hn rfl) (Bi ?_))))
  intro x dx nx ndx ne
  refine⟨x,dx,z.toNat,kn.toNat,by rw[<-ez,<-ek],AB,fun H1 hx1 b1=>⟨rfl,?_⟩⟩
  have s1:AK H H1:=AK.init nx ndx b1
  refine⟨(by show 0<=sizeLine;decide),fun l hl=>?_⟩
  have s2:AK H1 (upd H1 l (.lst [])):=.new hl
  have el:(upd H1 l (.lst [])) l=some (.lst []):=AB
  have hx2:=hx1.same s2
  generalize upd H1 l (.lst [])=H2 at s2 el hx2
  have hlx:l≠x:=by obtain⟨d2,h2⟩:=hx2;exact Af el h2 (fun z=>nomatch z)
  have s12:=s1.trans s2
  have hn2:=s12 _ _ hn
  have nx2:H x=none:=nx
  refine gn _ H2 2 m rfl hn2 rfl _ ⟨m,rfl,by omega,by omega,?_⟩
  refine B6 (n:=m.toNat) (fun i σ H'=>∃v:Option V,σ=[some (.ref nl),some (.ref tl),some (.ref x),some (.ref l),v]/\AK H H'/\H' l=some (.lst (iv (Vbrgag.rollsOf ps i (Vbrgag.stream z.toNat kn.toNat))))/\Kk a H' x (Dm.F0 ps i (Vbrgag.stream z.toNat kn.toNat)))
   ⟨none,rfl,s12,el,hx2⟩ ?_ ?_
  ·rintro i σ H' hi ⟨v,rfl,s3,el3,hx3⟩
   obtain⟨y,gy,p1,p2,p3⟩:=D1 (K:=K) (i:=0) (n:=1) (σ:=[some (.ref nl),some (.ref tl),some (.ref x),some (.ref l),some (.int (0+(i:Int)))]) (ht.same s3) rfl rfl
   refine⟨_,rfl,.inl ⟨rfl,_,SqL.of el3⟩,gy _ ⟨_,rfl,y,ps,x,_,rfl,p1,p2,p3,hx3,fun H4 hx4 b4=>?_⟩⟩
   have el4:=b4 _ _ hlx el3
   refine⟨l,_,_,rfl,rfl,el4,?_,?_⟩
   ·rw[Ay]
    have:∀(j s:Nat),(Vbrgag.rollsOf ps j s).length=j:=fun j=>by
     induction j with
     |zero=>intro s;rfl
     |succ j ih=>intro s;show(_::_).length=_;rw[List.length_cons,ih]
    rw[this]
    omega
   ·refine⟨some (.int (0+(i:Int))),rfl,fun b o e=>?_,?_,?_⟩
    ·rw[AI (AM e (s1.free hl))]
     exact b4 b o (AM e nx2) (s3 _ _ e)
    ·rw[AB,Dm.MC,<-DU]
     rfl
    ·obtain⟨d4,h4⟩:=hx4
     exact⟨d4,by rw[AI (Ne.symm hlx)];exact h4⟩
  ·rintro σ H' ⟨v,rfl,s3,el3,hx3⟩
   exact⟨_,rfl,k l H' s3 (s1.free hl) el3⟩
def dAd (a:Ad):Nat->Addr
 |0=>a.Ea
 |1=>a.Eb
 |2=>a.Ec
 |3=>a.Cu
 |4=>a.Dd
 |5=>a.EY
 |_=>a.EZ
theorem fD:∀{c:Nat}{ns:List Int}{pss:List (List Vbrgag.Part)}{ans:List Int},OF c ns pss=some ans->c<7
 |0,_,_,_,_=>by decide
 |1,_,_,_,_=>by decide
 |2,_,_,_,_=>by decide
 |3,_,_,_,_=>by decide
 |4,_,_,_,_=>by decide
 |5,_,_,_,_=>by decide
 |6,_,_,_,_=>by decide
 |c+7,_,_,_,h=>by cases h
theorem l7 (T:Tx K mg a):∀c:Nat,c<7->∃k,k<=7/\Fn P w K mg base CX0 k (dAd a c) ["numbers","texts"] (MF a c)
 |0,_=>⟨_,by decide,l8 T⟩
 |1,_=>⟨_,by decide,l9 T⟩
 |2,_=>⟨_,by decide,mB T⟩
 |3,_=>⟨_,by decide,mC T⟩
 |4,_=>⟨_,by decide,lV T⟩
 |5,_=>⟨_,by decide,lW T⟩
 |6,_=>⟨_,by decide,lX T⟩
 |c+7,h=>absurd h (by omega)
theorem jj (a:Ad):∀c:Nat,c<7->tabAt [(0,.ref a.Ea),(1,.ref a.Eb),(2,.ref a.Ec),(3,.ref a.Cu),(4,.ref a.Dd),(5,.ref a.EY),(6,.ref a.EZ)] (c:Int)=some (Value.ref (dAd a c))
 |0,_=>rfl
 |1,_=>rfl
 |2,_=>rfl
 |3,_=>rfl
 |4,_=>rfl
 |5,_=>rfl
 |6,_=>rfl
 |c+7,h=>absurd h (by omega)
def mD (a:Ad):Sp:=fun vs H Q _=>∃c:Nat,∃nl tl ns pss ans,vs=[.int c,.ref nl,.ref tl]/\H nl=some (.lst (iv ns))/\Eh a H tl pss/\OF c ns pss=some ans/\Ip H (iv ans) Q
theorem mE:AL ["call","numbers","texts"] ["call","numbers","texts"] (AG De):=⟨rfl,rfl,rfl,by decide +kernel,rfl,by decide +kernel,by decide +kernel⟩
theorem jz (T:Tx K mg a):Fn P w K mg base CX0 8 a.C4 ["call","numbers","texts"] (mD a):=by
 obtain⟨fd,F,hb⟩:=T.Lb
 refine F.fn hb mE (fun vs H Q E h=>?_) (fun cdv A outer s H vs Q E hr h=>?_)
 ·obtain⟨c,nl,tl,ns,pss,ans,rfl,_⟩:=h
  rfl
 ·obtain⟨c,nl,tl,ns,pss,ans,rfl,hn,ht,ha,k⟩:=h
  refine⟨_,AF (AO (WW (Φ:=fun f sp=>∃c,c<7/\f=dAd a c/\sp=MF a c) (E:=E0) hr (OV rfl T.Ub T.DICE (pv 0) (fun _ _=>rfl)) (AA (pv 1) (AA (pv 2) AE)) ?_)),?_⟩
  ·rintro f sp ⟨c,hc,rfl,rfl⟩
   obtain⟨k,hk,G⟩:=l7 T c hc
   exact⟨CX0,k,_,G,hk,AU⟩
  ·have hc:=fD ha
   exact⟨_,rfl,c,_,.ref (dAd a c),rfl,jj a c hc,rfl,_,_,rfl,⟨c,hc,rfl,rfl⟩,_,rfl,_,rfl,nl,tl,ns,pss,ans,rfl,hn,ht,ha,k⟩
end
theorem Dp (h:(upd (upd H dx (.own x)) x (.ins C dx [])) b=none):H b=none:=by
 have n1:b≠x:=fun z=>by rw[z,AB]at h;cases h
 rw[AI n1]at h
 have n2:b≠dx:=fun z=>by rw[z,AB]at h;cases h
 rw[AI n2]at h
 exact h
def newD (n m:Nat):Duel:={first:={hp:=n,acts:=[]},second:={hp:=m,acts:=[]}}
section
variable {P:Program}{w:World}{K:PySem.W.Frag}{mg:Str->Option Value}{base:Heap}{a:Ad}
def Ro (a:Ad):Sp:=fun vs H Q _=>∃f df,∃n m:Nat,vs=[.ref f,.int n,.int m]/\H f=some (.ins a.BB df [])/\n<=15/\m<=15/\
 ∀l td x0 la0 lw0 x1 la1 lw1 H',Cy a H' f l td x0 la0 lw0 x1 la1 lw1 (newD n m) 1 1 []->But f H H'->H td=none->H x0=none->H x1=none->H la0=none->H la1=none->Q .non H'
theorem Rp:AL ["self","first","second"] ["self","first","second"] (AG Ia):=⟨rfl,rfl,rfl,by decide +kernel,rfl,by decide +kernel,by decide +kernel⟩
theorem Rm (T:Tx K mg a):Fn P w K mg base CX0 3 a.Ie ["self","first","second"] (Ro a):=by
 obtain⟨fd,F,hb⟩:=T.Ua
 refine F.fn hb Rp (fun vs H Q E h=>?_) (fun cdv A outer s H vs Q E hr h=>?_)
 ·obtain⟨f,df,n,m,rfl,_⟩:=h
  rfl
 ·obtain⟨f,df,n,m,rfl,hf,hn,hm,k⟩:=h
  refine⟨_,AD (BH (pv 0) (An (AA (Dv T.cA (MY T) hr rfl T.cB AU (AA (pv 1) AE)) (AA (Dv T.cA (MY T) hr rfl T.cB AU (AA (pv 2) AE)) AE))) rfl)
   (AF (BH (pv 0) O9 rfl)),?_⟩
  refine⟨_,rfl,?_⟩
  intro x0 d0 nx0 nd0 ne0
  refine⟨x0,d0,n,rfl,AB,fun la0 lw0 H1 S0 b1 hla0 hlw0 n0=>⟨rfl,?_⟩⟩
  have s1:AK H H1:=.init nx0 nd0 b1
  refine⟨_,rfl,?_⟩
  intro x1 d1 nx1 nd1 ne1
  refine⟨x1,d1,m,rfl,AB,fun la1 lw1 H2 S1 b2 hla1 hlw1 n1=>⟨rfl,?_⟩⟩
  have s2:AK H1 H2:=.init nx1 nd1 b2
  have S0':=S0.same s2
  obtain⟨as0,eas0,_⟩:=S0.acts
  obtain⟨ws0,ews0,_⟩:=S0.ws
  obtain⟨dd0,hx0⟩:=S0.ins
  have fl1:H1 la1=none:=Dp hla1
  have fw1:H1 lw1=none:=Dp hlw1
  have nx:x0≠x1:=AM hx0 nx1
  have nl:la0≠la1:=AM eas0 fl1
  have n01:la0≠lw1:=AM eas0 fw1
  have n10:la1≠lw0:=Ne.symm (AM ews0 fl1)
  refine⟨(by show 2<=sizeLine;decide),fun l hl=>?_⟩
  have s3:AK H2 (upd H2 l (.lst [.ref x0,.ref x1])):=.new hl
  have el:(upd H2 l (.lst [.ref x0,.ref x1])) l=some (.lst [.ref x0,.ref x1]):=AB
  generalize upd H2 l (.lst [.ref x0,.ref x1])=H3 at s3 el
  have s13:=s1.trans (s2.trans s3)
  have hf3:H3 f=some (.ins a.BB df []):=s13 _ _ hf
  refine⟨_,rfl,f,a.BB,df,[],rfl,hf3,T.Ap,T.Aq,(by show 0<1000;decide),?_⟩
  rw[BP]
  intro td htd
  have nft:f≠td:=AM AB htd
  have htd3:H3 td=none:=by rw[AI (Ne.symm nft)]at htd;exact htd
  refine⟨_,rfl,f,a.BB,df,_,rfl,(by rw[AI nft];exact AB),T.Ap,T.B7,(by show 1<1000;decide),?_⟩
  rw[Ak (by decide),BP]
  have kp:∀b o,b≠f->H3 b=some o->(upd (upd (upd H3 f (.ins a.BB df [("sides",.ref l)])) td (.dT [])) f (.ins a.BB df [("sides",.ref l),("tables",.ref td)])) b=some o:=fun b o nb e=>by
   rw[AI nb,AI (AM e htd3),AI nb]
   exact e
  have hf4:(upd (upd (upd H3 f (.ins a.BB df [("sides",.ref l)])) td (.dT [])) f (.ins a.BB df [("sides",.ref l),("tables",.ref td)])) f=some (.ins a.BB df [("sides",.ref l),("tables",.ref td)]):=AB
  have ht4:(upd (upd (upd H3 f (.ins a.BB df [("sides",.ref l)])) td (.dT [])) f (.ins a.BB df [("sides",.ref l),("tables",.ref td)])) td=some (.dT []):=by rw[AI (Ne.symm nft)];exact AB
  generalize upd (upd (upd H3 f (.ins a.BB df [("sides",.ref l)])) td (.dT [])) f (.ins a.BB df [("sides",.ref l),("tables",.ref td)])=H4 at kp hf4 ht4
  have nfl:∀{b:Addr}{xs:List V},H3 b=some (.lst xs)->b≠f:=fun e=>Af e hf3 (fun z=>nomatch z)
  have side:∀{x la lw:Addr}{q:Nat},A3 a H3 x la lw {hp:=q,acts:=[]} 1->A3 a H4 x la lw {hp:=q,acts:=[]} 1:=fun S=>by
   obtain⟨dd,hh⟩:=S.ins
   obtain⟨as,ea,pa⟩:=S.acts
   obtain⟨ws,ew,pw⟩:=S.ws
   cases pa
   cases pw
   exact⟨⟨dd,kp _ _ (Af hh hf3 fun z=>by injection z with _ _ z;cases z) hh⟩,⟨[],kp _ _ (nfl ea) ea,.nil⟩,⟨[],kp _ _ (nfl ew) ew,.nil⟩,S.sd⟩
  refine k l td x0 la0 lw0 x1 la1 lw1 H4 ⟨⟨df,hf4⟩,kp _ _ (nfl el) el,side (S0'.same s3),side (S1.same s3),nx,nl,n01,n10,ht4,List.nodup_nil,(fun k v e=>by rw[VU]at e;cases e),hn,hm⟩ ?_ (s13.free htd3) nx0 (s1.free nx1) (Dp hla0) (s1.free fl1)
  exact fun b o nb e=>kp b o nb (s13 _ _ e)
def U3 (a:Ad):Sp:=fun vs H Q _=>∃g dg,vs=[.ref g]/\H g=some (.ins a.EI dg [])/\∀H',H' g=some (.ins a.EI dg [("fight",.non)])->But g H H'->Q .non H'
theorem U4:AL ["self"] ["self"] (AG J9):=⟨rfl,rfl,rfl,by decide +kernel,rfl,by decide +kernel,by decide +kernel⟩
theorem T9 (T:Tx K mg a):Fn P w K mg base CX0 1 a.Kg ["self"] (U3 a):=by
 obtain⟨fd,F,hb⟩:=T.WU
 refine F.fn hb U4 (fun vs H Q E h=>?_) (fun cdv A outer s H vs Q E hr h=>?_)
 ·obtain⟨g,dg,rfl,_⟩:=h
  rfl
 ·obtain⟨g,dg,rfl,hg,k⟩:=h
  refine⟨_,AF (BH (pv 0) iZ rfl),?_⟩
  refine⟨_,rfl,g,a.EI,dg,[],rfl,hg,T.Fb,T.BG,(by show 0<1000;decide),?_⟩
  exact k _ (by rw[AB,BP]) But.upd
end
def A2 (a:Ad)(H:Hp)(g:Addr)(O:List Addr):Option Duel->Prop
 |none=>Bt H g a.EI [("fight",.non)]/\O=[g]
 |some D=>∃f l td x0 la0 lw0 x1 la1 lw1 c0 c1 kvs,Bt H g a.EI [("fight",.ref f)]/\Cy a H f l td x0 la0 lw0 x1 la1 lw1 D c0 c1 kvs/\O=[g,f,td,x0,x1,la0,la1]
def Out (O:List Addr)(H H':Hp):Prop:=∀b o,b∉O->H b=some o->H' b=some o
theorem AK.out (s:AK H H'):Out O H H':=fun b o _ e=>s b o e
def Fe (H:Hp)(O O':List Addr):Prop:=∀b∈O',b∈O\/H b=none
theorem Fe.refl (H:Hp)(O:List Addr):Fe H O O:=fun b h=>.inl h
theorem Fe.JO (s:AK H H1)(h:Fe H1 O O'):Fe H O O':=fun b hb=>(h b hb).imp id s.free
structure Keeps (H H':Hp):Prop where
 lst:∀b xs,H b=some (.lst xs)->H' b=some (.lst xs)
 dt:∀b kvs,H b=some (.dT kvs)->H' b=some (.dT kvs)
 ins:∀b C d (f:Str) v r,f≠"calls"->H b=some (.ins C d ((f,v)::r))->H' b=some (.ins C d ((f,v)::r))
theorem AK.keeps (s:AK H H'):Keeps H H':=⟨fun b xs e=>s _ _ e,fun b k e=>s _ _ e,fun b C d f v r _ e=>s _ _ e⟩
section
variable {a:Ad}{H H':Hp}
theorem Keeps.S3 (s:Keeps H H')(h:Bt H x C ((f,v)::r))(hf:f≠"calls"):Bt H' x C ((f,v)::r):=let⟨d,e⟩:=h;⟨d,s.ins _ _ _ _ _ _ hf e⟩
theorem Keeps.act (s:Keeps H H'){x:Addr}{act:Act}(h:CF a H x act):CF a H' x act:=let⟨c,i,e⟩:=h;⟨c,s.S3 i (by decide),s.lst _ _ e⟩
theorem Keeps.side (s:Keeps H H')(h:A3 a H x la lw sd c):A3 a H' x la lw sd c:=
 ⟨s.S3 h.ins (by decide),let⟨as,e,p⟩:=h.acts;⟨as,s.lst _ _ e,p.Jn fun _ _ _ _ q=>s.act q⟩,let⟨as,e,p⟩:=h.ws;⟨as,s.lst _ _ e,p.Jn fun _ _ _ _ q=>s.lst _ _ q⟩,h.sd⟩
theorem Keeps.table (s:Keeps H H')(h:TableAt a H t m1 m2 num den):TableAt a H' t m1 m2 num den:=
 let⟨la,rows,i,e,n,r⟩:=h
 ⟨la,rows,s.S3 i (by decide),s.lst _ _ e,n,fun j q hq=>s.lst _ _ (r j q hq)⟩
theorem Keeps.aM (s:Keeps H H')(F:Cy a H f l td x0 la0 lw0 x1 la1 lw1 D c0 c1 kvs):Cy a H' f l td x0 la0 lw0 x1 la1 lw1 D c0 c1 kvs:=
 ⟨s.S3 F.ins (by decide),s.lst _ _ F.lst,s.side F.s0,s.side F.s1,F.nx,F.nl,F.n01,F.n10,s.dt _ _ F.td,F.nd,fun k v e=>by
  obtain⟨n,m,t,num,den,h1,h2,h3,h4,h5⟩:=F.ent k v e
  exact⟨n,m,t,num,den,h1,h2,h3,s.table h4,h5⟩,F.hp1,F.hp2⟩
theorem Keeps.jJ (s:Keeps H H'):∀{d:Option Duel},A2 a H g O d->A2 a H' g O d
 |none,⟨h,e⟩=>⟨s.S3 h (by decide),e⟩
 |some D,⟨f,l,td,x0,la0,lw0,x1,la1,lw1,c0,c1,kvs,h,F,e⟩=>⟨f,l,td,x0,la0,lw0,x1,la1,lw1,c0,c1,kvs,s.S3 h (by decide),s.aM F,e⟩
theorem A2.same (h:A2 a H g O d)(s:AK H H'):A2 a H' g O d:=(AK.keeps s).jJ h
theorem A2.own (h:A2 a H g O d):g∈O:=by
 cases d with
 |none=>rw[h.2];simp
 |some D=>obtain⟨f,l,td,x0,la0,lw0,x1,la1,lw1,c0,c1,kvs,_,_,e⟩:=h;rw[e];simp
end
def Gv (a:Ad)(H:Hp)(g:Addr)(O:List Addr)(d:Option Duel)(ans:List Int)(Q:VK):Prop:=∀l H' O',A2 a H' g O' d->Out O H H'->Fe H O O'->H' l=some (.lst (iv ans))->Q (.ref l) H'
theorem Gv.JO (h:Gv a H g O d ans Q)(s:AK H H1):Gv a H1 g O d ans Q:=fun l H' O' h1 h2 h3 h4=>h l H' O' h1 (fun b o hb e=>h2 b o hb (s _ _ e)) (h3.JO s) h4
section
variable {P:Program}{w:World}{K:PySem.W.Frag}{mg:Str->Option Value}{base:Heap}{a:Ad}
theorem Bw {H:Hp}{nl:Addr}{ns:List Int}{i:Nat}{v:Int}{n:Nat}{σ:L2.St}(h:H nl=some (.lst (iv ns)))(hi:ns[i]? =some v)(e:σ[n]? =some (some (.ref nl))):Gives (tOp (N0 K) (Ae n) (tC (.int i))) σ H (.int v):=Fc (AQ e) Ax (SqL.of h) (SQ hi)
def hW (a:Ad):Sp:=fun vs H Q _=>∃g nl tl O d,∃x y:Nat,vs=[.ref g,.ref nl,.ref tl]/\A2 a H g O d/\H nl=some (.lst (iv [(x:Int),(y:Int)]))/\x<=15/\y<=15/\Gv a H g O (some (newD x y)) [] Q
theorem mJ:AL ["game","numbers","texts"] ["game","numbers","texts"] (AG IX):=⟨rfl,rfl,rfl,by decide +kernel,rfl,by decide +kernel,by decide +kernel⟩
theorem cJ (h:A2 a H g O d):∃dg v,H g=some (.ins a.EI dg [("fight",v)]):=by
 cases d with
 |none=>obtain⟨⟨dg,e⟩,_⟩:=h;exact⟨dg,_,e⟩
 |some D=>obtain⟨f,l,td,x0,la0,lw0,x1,la1,lw1,c0,c1,kvs,⟨dg,e⟩,_,_⟩:=h;exact⟨dg,_,e⟩
theorem Zs (hg:H g=some (.ins a.EI dg [("fight",v)]))(F:Cy a H f l td x0 la0 lw0 x1 la1 lw1 D c0 c1 kvs):
  Cy a (upd H g (.ins a.EI dg [("fight",v')])) f l td x0 la0 lw0 x1 la1 lw1 D c0 c1 kvs:=by
 have k:∀b o,b≠g->H b=some o->(upd H g (.ins a.EI dg [("fight",v')])) b=some o:=fun b o nb e=>by rw[AI nb];exact e
 have nl:∀{b:Addr}{xs:List V},H b=some (.lst xs)->(upd H g (.ins a.EI dg [("fight",v')])) b=some (.lst xs):=fun e=>k _ _ (Af e hg (fun z=>nomatch z)) e
 have ni:∀{b C d:Addr}{fs:List (Str×V)}{f:Str}{v:V}{r:List (Str×V)},fs=(f,v)::r->f≠"fight"->H b=some (.ins C d fs)->(upd H g (.ins a.EI dg [("fight",v')])) b=some (.ins C d fs):=fun e1 e2 e=>k _ _ (Af e hg fun z=>by
  injection z with _ _ z
  rw[e1]at z
  injection z with z
  exact e2 (congrArg Prod.fst z)) e
 have act:∀{x:Addr}{act:Act},CF a H x act->CF a (upd H g (.ins a.EI dg [("fight",v')])) x act:=fun⟨c,⟨d,i⟩,e⟩=>⟨c,⟨d,ni rfl (by decide) i⟩,nl e⟩
 have side:∀{x la lw:Addr}{s:Side}{c:Nat},A3 a H x la lw s c->A3 a (upd H g (.ins a.EI dg [("fight",v')])) x la lw s c:=fun S=>
  ⟨let⟨d,i⟩:=S.ins;⟨d,ni rfl (by decide) i⟩,let⟨as,e,p⟩:=S.acts;⟨as,nl e,p.Jn fun _ _ _ _ q=>act q⟩,let⟨as,e,p⟩:=S.ws;⟨as,nl e,p.Jn fun _ _ _ _ q=>nl q⟩,S.sd⟩
 refine⟨let⟨d,i⟩:=F.ins;⟨d,ni rfl (by decide) i⟩,nl F.lst,side F.s0,side F.s1,F.nx,F.nl,F.n01,F.n10,k _ _ (Af F.td hg (fun z=>nomatch z)) F.td,F.nd,fun ky v e=>?_,F.hp1,F.hp2⟩
 obtain⟨n,m,t,num,den,h1,h2,h3,⟨la,rows,⟨d,i⟩,e,nn,r⟩,h5⟩:=F.ent ky v e
 exact⟨n,m,t,num,den,h1,h2,h3,⟨la,rows,⟨d,ni rfl (by decide) i⟩,nl e,nn,fun j q hq=>nl (r j q hq)⟩,h5⟩
theorem ly (T:Tx K mg a):Fn P w K mg base CX0 5 a.Dg ["game","numbers","texts"] (hW a):=by
 obtain⟨fd,F,hb⟩:=T.UX
 refine F.fn hb mJ (fun vs H Q E h=>?_) (fun cdv A outer s H vs Q E hr h=>?_)
 ·obtain⟨g,nl,tl,O,d,x,y,rfl,_⟩:=h
  rfl
 ·obtain⟨g,nl,tl,O,d,x,y,rfl,G,hn,hx,hy,k⟩:=h
  refine⟨_,AD (BH (pv 0) (Dv T.fA (Rm T) hr rfl T.fB AU (AA (Aa AR (pv 1) AH (fun _ _=>rfl)) (AA (Aa AR (pv 1) AH (fun _ _=>rfl)) AE))) rfl) (AF (AO (An AE))),?_⟩
  obtain⟨dg,v,hg⟩:=cJ G
  refine sq_ (mk_ (AV (Bw hn (i:=0) rfl rfl) (AV (Bw hn (i:=1) rfl rfl) (Bi ?_))))
  intro f df nf ndf ne
  refine⟨f,df,x,y,rfl,AB,hx,hy,fun l td x0 la0 lw0 x1 la1 lw1 H1 Ft b1 h1 h2 h3 h4 h5=>⟨rfl,?_⟩⟩
  have s1:AK H H1:=.init nf ndf b1
  have hg1:=s1 _ _ hg
  refine⟨_,rfl,g,a.EI,dg,_,rfl,hg1,T.Fb,T.BG,(by show 1<1000;decide),?_⟩
  rw[IE]
  have F2:=Zs (v':=V.ref f) hg1 Ft
  have hg2:(upd H1 g (.ins a.EI dg [("fight",.ref f)])) g=some (.ins a.EI dg [("fight",.ref f)]):=AB
  have kp:∀b o,b≠g->H1 b=some o->(upd H1 g (.ins a.EI dg [("fight",.ref f)])) b=some o:=fun b o nb e=>by rw[AI nb];exact e
  generalize upd H1 g (.ins a.EI dg [("fight",.ref f)])=H2 at F2 hg2 kp
  refine⟨(by show 0<=sizeLine;decide),fun r hr'=>?_⟩
  have s3:AK H2 (upd H2 r (.lst [])):=.new hr'
  refine k r _ [g,f,td,x0,x1,la0,la1] ⟨f,l,td,x0,la0,lw0,x1,la1,lw1,1,1,[],⟨dg,s3 _ _ hg2⟩,F2.same s3,rfl⟩ ?_ ?_ AB
  ·intro b o hb e
   exact s3 _ _ (kp b o (fun z=>hb (by rw[z];exact G.own)) (s1 _ _ e))
  ·intro b hb
   have hb':b=g\/b=f\/b=td\/b=x0\/b=x1\/b=la0\/b=la1:=by simpa using hb
   rcases hb' with z|z|z|z|z|z|z
   ·exact .inl (by rw[z];exact G.own)
   ·exact .inr (by rw[z];exact nf)
   ·exact .inr (by rw[z];exact Dp h1)
   ·exact .inr (by rw[z];exact Dp h2)
   ·exact .inr (by rw[z];exact Dp h3)
   ·exact .inr (by rw[z];exact Dp h4)
   ·exact .inr (by rw[z];exact Dp h5)
theorem Sa (hg:H g=some (.ins a.EI dg [("fight",.ref f)]))(F:Cy a H f l td x0 la0 lw0 x1 la1 lw1 D c0 c1 kvs)
  (F':Cy a H' f l td' x0 la0 lw0' x1 la1 lw1' D' c0' c1' [])(kp:∀b o,b≠f->b≠x0->b≠x1->b≠la0->b≠la1->H b=some o->H' b=some o)(nt:H td'=none)(s:AK H' H''):
  A2 a H'' g [g,f,td',x0,x1,la0,la1] (some D')/\Out [g,f,td,x0,x1,la0,la1] H H''/\Fe H [g,f,td,x0,x1,la0,la1] [g,f,td',x0,x1,la0,la1]:=by
 obtain⟨df,hf⟩:=F.ins
 obtain⟨d0,h0⟩:=F.s0.ins
 obtain⟨d1,h1⟩:=F.s1.ins
 obtain⟨as0,e0,_⟩:=F.s0.acts
 obtain⟨as1,e1,_⟩:=F.s1.acts
 have ni:∀{b C d:Addr}{fs r:List (Str×V)}{f:Str}{v:V},fs=(f,v)::r->f≠"fight"->H b=some (.ins C d fs)->g≠b:=fun e1 e2 e=>Ne.symm (Af e hg fun z=>by
  injection z with _ _ z
  rw[e1]at z
  injection z with z
  exact e2 (congrArg Prod.fst z))
 have nl:∀{b:Addr}{xs:List V},H b=some (.lst xs)->g≠b:=fun e=>Af hg e (fun z=>nomatch z)
 refine⟨⟨f,l,td',x0,la0,lw0',x1,la1,lw1',c0',c1',[],⟨dg,s _ _ (kp _ _ (ni rfl (by decide) hf) (ni rfl (by decide) h0) (ni rfl (by decide) h1) (nl e0) (nl e1) hg)⟩,F'.same s,rfl⟩,?_,?_⟩
 ·intro b o hb e
  have hb':¬(b=g\/b=f\/b=td\/b=x0\/b=x1\/b=la0\/b=la1):=fun z=>hb (by simpa using z)
  exact s _ _ (kp b o (fun z=>hb' (by simp[z])) (fun z=>hb' (by simp[z])) (fun z=>hb' (by simp[z])) (fun z=>hb' (by simp[z])) (fun z=>hb' (by simp[z])) e)
 ·intro b hb
  have hb':b=g\/b=f\/b=td'\/b=x0\/b=x1\/b=la0\/b=la1:=by simpa using hb
  rcases hb' with z|z|z|z|z|z|z
  ·exact .inl (by simp[z])
  ·exact .inl (by simp[z])
  ·exact .inr (by rw[z];exact nt)
  ·exact .inl (by simp[z])
  ·exact .inl (by simp[z])
  ·exact .inl (by simp[z])
  ·exact .inl (by simp[z])
end
end Fd
namespace Dm
open Vbrgag
theorem UC (h:Few n d)(hn:n<=3):d.total<=2 ^ 126:=Nat.le_trans h.tot (Nat.pow_le_pow_right (by decide) (by omega))
theorem ZU (v:Int)(h:Few n d)(k:Few m e)(hn:n<=3)(hm:m<=3):Good (actOf false (atLeast d v) d.total e):=by
 refine⟨KW _ _ _ _,Vr _ _ _ _ (PQ d v),Nat.mul_pos h.pos k.pos,?_⟩
 show d.total*e.total<=2 ^ 252
 rw[show(2:Nat) ^ 252=2 ^ 126*2 ^ 126 by decide]
 exact Nat.mul_le_mul (UC h hn) (UC k hm)
theorem ZV (h:Few n d)(hn:n<=3):Good (actOf true 1 1 d):=by
 refine⟨KW _ _ _ _,Vr _ _ _ _ (Nat.le_refl _),Nat.mul_pos (by decide) h.pos,?_⟩
 show 1*d.total<=2 ^ 252
 rw[Nat.one_mul]
 exact Nat.le_trans (UC h hn) (by decide)
end Dm
namespace Fd
open PySem PySem.Spec PyProof.Rows L2
section
variable {P:Program}{w:World}{K:PySem.W.Frag}{mg:Str->Option Value}{base:Heap}{a:Ad}
def gA (a:Ad):Sp:=fun vs H Q E=>∃g nl tl O D,∃(mine:Bool) (v:Int) (ps qs:List Vbrgag.Part),vs=[.ref g,.ref nl,.ref tl]/\A2 a H g O (some D)/\H nl=some (.lst (iv [Aw mine,v]))/\Eh a H tl [ps,qs]/\
 (3<=(D.side mine).acts.length->BU a a.Au H E)/\((D.side mine).acts.length<3->Gv a H g O (some (Pb D mine (Vbrgag.actOf false (Vbrgag.atLeast (Vbrgag.distOf ps) v) (Vbrgag.distOf ps).total (Vbrgag.distOf qs)))) [(((D.side mine).acts.length+1:Nat):Int)] Q)
theorem gB:AL ["game","numbers","texts","act"] ["game","numbers","texts"] (AG Jh):=⟨rfl,rfl,rfl,by decide +kernel,rfl,by decide +kernel,by decide +kernel⟩
theorem lB (T:Tx K mg a):Fn P w K mg base (CXR P w) 7 a.ES ["game","numbers","texts"] (gA a):=by
 obtain⟨fd,F,hb⟩:=T.Vv
 refine F.fnR hb gB (fun vs H Q E h=>?_) (fun cdv A outer s H vs Q E hr h=>?_)
 ·obtain⟨g,nl,tl,O,D,mine,v,ps,qs,rfl,_⟩:=h
  rfl
 ·obtain⟨g,nl,tl,O,D,mine,v,ps,qs,rfl,⟨f,l,td,x0,la0,lw0,x1,la1,lw1,c0,c1,kvs,⟨dg,hg⟩,Ft,rfl⟩,hn,ht,k1,k2⟩:=h
  have nd:=gB.nd
  refine⟨_,AD (Az (B4 (AJ (pv 0) rfl) T.Ap T.Fv (X5 T) hr (C5 (E':=E) fun _ _ _ h=>h) (AA (Aa AR (pv 1) AH (fun _ _=>rfl)) AE)))
   (AD (AN (i:=3) nd rfl (Or.inl rfl) (Ac (d5 T) hr rfl T.RD Bv (AA (Ac (Nb T) hr rfl T.Be Bv (AA (Aa AR (pv 2) AH (fun _ _=>rfl)) AE)) (AA (Aa AR (pv 1) AH (fun _ _=>rfl)) (AA (Ac (Nb T) hr rfl T.Be Bv (AA (Aa AR (pv 2) AH (fun _ _=>rfl)) AE)) AE)))))
   (AF (AO (An (AA (B4 (AJ (pv 0) rfl) T.Ap T.Hg (YY T) hr Bv (AA (Aa AR (pv 1) AH (fun _ _=>rfl)) (AA (pv 3) AE))) AE))))),?_⟩
  obtain⟨df,hf⟩:=Ft.ins
  have gf:∀(σ:L2.St) (H':Hp),AK H H'->σ[0]? =some (some (.ref g))->Gives (Bq K (Ae 0) "fight") σ H' (.ref f):=fun σ H' s' e=>A9 (AQ e) (s' _ _ hg) T.Fb T.BG rfl
  refine sq_ (mt_ (gf _ H (AK.refl H) rfl) hf rfl (AV (Bw hn (i:=0) rfl rfl) (Bi ⟨f,l,td,x0,la0,lw0,x1,la1,lw1,D,c0,c1,kvs,mine,rfl,Ft,fun h=>k1 h H (AK.refl H),fun hlt=>?_⟩)))
  obtain⟨xa,ga,pa1,pa2,pa3⟩:=D1 (K:=K) (i:=0) (n:=2) (σ:=[some (.ref g),some (.ref nl),some (.ref tl),none]) ht rfl rfl
  have few1:=Dm.DF pa3
  refine sq_ (ga _ ⟨xa,ps,rfl,pa1,pa2,pa3,fun r1 H1 s1 hr1=>?_⟩)
  obtain⟨xb,gb,pb1,pb2,pb3⟩:=D1 (K:=K) (i:=1) (n:=2) (σ:=[some (.ref g),some (.ref nl),some (.ref tl),none]) (ht.same s1) rfl rfl
  have few2:=Dm.DF pb3
  refine Bw (K:=K) (s1 _ _ hn) (i:=1) (v:=v) rfl rfl _ (gb _ ⟨xb,qs,rfl,pb1,pb2,pb3,fun r2 H2 s2 hr2=>?_⟩)
  refine⟨r1,r2,v,_,_,rfl,hr1.same s2,hr2,(M3 few1 pa2).more (by decide),(M3 few2 pb2).more (by decide),fun y H3 s3 hy=>?_⟩
  have s13:=s1.trans (s2.trans s3)
  have g3:=Dm.ZU v few1 few2 pa2 pb2
  generalize Vbrgag.actOf false (Vbrgag.atLeast (Vbrgag.distOf ps) v) (Vbrgag.distOf ps).total (Vbrgag.distOf qs)=act at hy g3 k2
  have k3:=(k2 hlt).JO s13
  have F3:=Ft.same s13
  have hg3:=s13 _ _ hg
  refine mt_ (gf _ H3 s13 rfl) (s13 _ _ hf) rfl (AV (Bw (s13 _ _ hn) (i:=0) rfl rfl) (AV (AQ rfl) (Bi ⟨f,l,td,x0,la0,lw0,x1,la1,lw1,D,c0,c1,kvs,mine,y,act,rfl,F3,hy,g3,hlt,fun td' lw0' lw1' c0' c1' H4 F4 kp nt=>?_⟩)))
  refine⟨(by show 1<=sizeLine;decide),fun r hr'=>?_⟩
  obtain⟨q1,q2,q3⟩:=Sa hg3 F3 F4 kp nt (AK.new (o:=.lst [.int (((D.side mine).acts.length+1:Nat):Int)]) hr')
  exact k3 r _ _ q1 q2 q3 AB
def gC (a:Ad):Sp:=fun vs H Q E=>∃g nl tl O D,∃(mine:Bool) (ps:List Vbrgag.Part),vs=[.ref g,.ref nl,.ref tl]/\A2 a H g O (some D)/\H nl=some (.lst (iv [Aw mine]))/\Eh a H tl [ps]/\
 (3<=(D.side mine).acts.length->BU a a.Au H E)/\((D.side mine).acts.length<3->Gv a H g O (some (Pb D mine (Vbrgag.actOf true 1 1 (Vbrgag.distOf ps)))) [(((D.side mine).acts.length+1:Nat):Int)] Q)
theorem gD:AL ["game","numbers","texts","act"] ["game","numbers","texts"] (AG Ji):=⟨rfl,rfl,rfl,by decide +kernel,rfl,by decide +kernel,by decide +kernel⟩
theorem lC (T:Tx K mg a):Fn P w K mg base (CXR P w) 7 a.EU ["game","numbers","texts"] (gC a):=by
 obtain⟨fd,F,hb⟩:=T.Vw
 refine F.fnR hb gD (fun vs H Q E h=>?_) (fun cdv A outer s H vs Q E hr h=>?_)
 ·obtain⟨g,nl,tl,O,D,mine,ps,rfl,_⟩:=h
  rfl
 ·obtain⟨g,nl,tl,O,D,mine,ps,rfl,⟨f,l,td,x0,la0,lw0,x1,la1,lw1,c0,c1,kvs,⟨dg,hg⟩,Ft,rfl⟩,hn,ht,k1,k2⟩:=h
  have nd:=gD.nd
  refine⟨_,AD (Az (B4 (AJ (pv 0) rfl) T.Ap T.Fv (X5 T) hr (C5 (E':=E) fun _ _ _ h=>h) (AA (Aa AR (pv 1) AH (fun _ _=>rfl)) AE)))
   (AD (AN (i:=3) nd rfl (Or.inl rfl) (Ac (du T) hr rfl T.RE Bv (AA (Ac (Nb T) hr rfl T.Be Bv (AA (Aa AR (pv 2) AH (fun _ _=>rfl)) AE)) AE)))
   (AF (AO (An (AA (B4 (AJ (pv 0) rfl) T.Ap T.Hg (YY T) hr Bv (AA (Aa AR (pv 1) AH (fun _ _=>rfl)) (AA (pv 3) AE))) AE))))),?_⟩
  obtain⟨df,hf⟩:=Ft.ins
  have gf:∀(σ:L2.St) (H':Hp),AK H H'->σ[0]? =some (some (.ref g))->Gives (Bq K (Ae 0) "fight") σ H' (.ref f):=fun σ H' s' e=>A9 (AQ e) (s' _ _ hg) T.Fb T.BG rfl
  refine sq_ (mt_ (gf _ H (AK.refl H) rfl) hf rfl (AV (Bw hn (i:=0) rfl rfl) (Bi ⟨f,l,td,x0,la0,lw0,x1,la1,lw1,D,c0,c1,kvs,mine,rfl,Ft,fun h=>k1 h H (AK.refl H),fun hlt=>?_⟩)))
  obtain⟨xa,ga,pa1,pa2,pa3⟩:=D1 (K:=K) (i:=0) (n:=2) (σ:=[some (.ref g),some (.ref nl),some (.ref tl),none]) ht rfl rfl
  have few1:=Dm.DF pa3
  refine sq_ (ga _ ⟨xa,ps,rfl,pa1,pa2,pa3,fun r1 H1 s1 hr1=>?_⟩)
  refine⟨r1,_,rfl,hr1,fun y H3 s3 hy=>?_⟩
  have s13:=s1.trans s3
  have g3:=Dm.ZV few1 pa2
  generalize Vbrgag.actOf true 1 1 (Vbrgag.distOf ps)=act at hy g3 k2
  have k3:=(k2 hlt).JO s13
  have F3:=Ft.same s13
  have hg3:=s13 _ _ hg
  refine mt_ (gf _ H3 s13 rfl) (s13 _ _ hf) rfl (AV (Bw (s13 _ _ hn) (i:=0) rfl rfl) (AV (AQ rfl) (Bi ⟨f,l,td,x0,la0,lw0,x1,la1,lw1,D,c0,c1,kvs,mine,y,act,rfl,F3,hy,g3,hlt,fun td' lw0' lw1' c0' c1' H4 F4 kp nt=>?_⟩)))
  refine⟨(by show 1<=sizeLine;decide),fun r hr'=>?_⟩
  obtain⟨q1,q2,q3⟩:=Sa hg3 F3 F4 kp nt (AK.new (o:=.lst [.int (((D.side mine).acts.length+1:Nat):Int)]) hr')
  exact k3 r _ _ q1 q2 q3 AB
theorem JA (hg:H g=some (.ins a.EI dg [("fight",.ref f)]))(F:Cy a H f l td x0 la0 lw0 x1 la1 lw1 D c0 c1 kvs)
  (F':Cy a H' f l td x0 la0 lw0 x1 la1 lw1 D c0 c1 kvs')(b:But td H H')(s:AK H' H''):A2 a H'' g [g,f,td,x0,x1,la0,la1] (some D)/\Out [g,f,td,x0,x1,la0,la1] H H'':=
 ⟨⟨f,l,td,x0,la0,lw0,x1,la1,lw1,c0,c1,kvs',⟨dg,s _ _ (b _ _ (Af hg F.td (fun z=>nomatch z)) hg)⟩,F'.same s,rfl⟩,fun c o hc e=>s _ _ (b c o (fun z=>hc (by simp[z])) e)⟩
def Pts (a:Ad)(D:Duel)(x y:Nat)(H:Hp)(E:XK):Prop:=((D.first.hp<x\/D.second.hp<y)->BU a a.BV H E)/\(x<=D.first.hp->y<=D.second.hp->(D.first.acts=[]\/D.second.acts=[])->BU a a.DS H E)
def Yw (D:Duel)(x y:Nat):Prop:=x<=D.first.hp/\y<=D.second.hp/\D.first.acts≠[]/\D.second.acts≠[]
theorem Zy (R:Dm.Rep D n mine num den)(hn:n<=8):Bd 6050 den:=by
 have h1:2 ^ (756*n)<=2 ^ 6048:=Nat.pow_le_pow_right (by decide) (by omega)
 have h2:(2:Nat) ^ 6048<2 ^ 6050:=Nat.pow_lt_pow_right (by decide) (by decide)
 exact Nat.lt_of_le_of_lt (Nat.le_trans R.bd h1) h2
def Zz (a:Ad):Sp:=fun vs H Q E=>∃g nl tl O D,∃(n:Nat) (mine:Bool) (x y:Nat),vs=[.ref g,.ref nl,.ref tl]/\A2 a H g O (some D)/\H nl=some (.lst (iv [(n:Int),Aw mine,(x:Int),(y:Int)]))/\n<=8/\Pts a D x y H E/\
 (Yw D x y->Gv a H g O (some D) (Vbrgag.told (D.odds n mine x y)) Q)
theorem Z0:AL ["game","numbers","texts","a","b","table"] ["game","numbers","texts"] (AG JB):=⟨rfl,rfl,rfl,by decide +kernel,rfl,by decide +kernel,by decide +kernel⟩
theorem iI (T:Tx K mg a):Fn P w K mg base (CXR P w) 8 a.EL ["game","numbers","texts"] (Zz a):=by
 obtain⟨fd,F,hb⟩:=T.U6
 refine F.fnR hb Z0 (fun vs H Q E h=>?_) (fun cdv A outer s H vs Q E hr h=>?_)
 ·obtain⟨g,nl,tl,O,D,n,mine,x,y,rfl,_⟩:=h
  rfl
 ·obtain⟨g,nl,tl,O,D,n,mine,x,y,rfl,⟨f,l,td,x0,la0,lw0,x1,la1,lw1,c0,c1,kvs,⟨dg,hg⟩,Ft,rfl⟩,hn,hn8,⟨k1,k2⟩,k3⟩:=h
  have nd:=Z0.nd
  refine⟨_,AD (AN (i:=3) nd rfl (Or.inl rfl) (Aa AR (pv 1) AH (fun _ _=>rfl)))
   (AD (AN (i:=4) nd rfl (Or.inl rfl) (Aa AR (pv 1) AH (fun _ _=>rfl)))
   (AD (Az (B4 (AJ (pv 0) rfl) T.Ap T.Cj (Z1 T) hr (C5 (E':=E) fun _ _ _ h=>h) (AA (pv 3) (AA (pv 4) AE))))
   (AD (AN (i:=5) nd rfl (Or.inl rfl) (B4 (AJ (pv 0) rfl) T.Ap T.Gx (Wm T) hr Bv (AA (Aa AR (pv 1) AH (fun _ _=>rfl)) (AA (Aa AR (pv 1) AH (fun _ _=>rfl)) AE))))
   (AF (AO (Ac (Og T) hr rfl T.Bh Bv (AA (Aa AR (Aa AR (AJ (pv 5) rfl) (pv 3) (fun _ _=>rfl)) (pv 4) (fun _ _=>rfl)) (AA (AJ (pv 5) rfl) AE)))))))),?_⟩
  obtain⟨df,hf⟩:=Ft.ins
  have gf:∀(σ:L2.St),σ[0]? =some (some (.ref g))->Gives (Bq K (Ae 0) "fight") σ H (.ref f):=fun σ e=>A9 (AQ e) hg T.Fb T.BG rfl
  refine sq_ (E2 (Bw (v:=(x:Int)) hn (i:=2) rfl rfl) (sq_ (E2 (Bw (v:=(y:Int)) hn (i:=3) rfl rfl) ?_)))
  refine sq_ (mt_ (gf _ rfl) hf rfl (AV (AQ rfl) (AV (AQ rfl) (Bi ⟨f,l,td,x0,la0,lw0,x1,la1,lw1,D,c0,c1,kvs,x,y,rfl,Ft,fun h=>k1 h H (AK.refl H),fun h1 h2 h3=>k2 h1 h2 h3 H (AK.refl H),fun h1 h2 h3 h4=>?_⟩))))
  have k4:=k3 ⟨h1,h2,h3,h4⟩
  refine sq_ (mt_ (gf _ rfl) hf rfl (AV (Bw (v:=(n:Int)) hn (i:=0) rfl rfl) (AV (Bw (v:=Aw mine) hn (i:=1) rfl rfl) (Bi ⟨f,l,td,x0,la0,lw0,x1,la1,lw1,D,c0,c1,kvs,n,mine,rfl,Ft,h3,h4,hn8,fun t num den kvs' H' F' b' ht R=>?_⟩))))
  rw[Dm.Z2 R h1 h2]at k4
  obtain⟨la,rows,⟨dt,hti⟩,hla,hrl,hrows⟩:=ht
  have hxr:x<rows.length:=by omega
  obtain⟨r,hr0⟩:∃r,rows[x]? =some r:=⟨rows[x],List.getElem?_eq_getElem hxr⟩
  have hrr:=hrows x r hr0
  have hnum:((List.range (D.second.hp+1)).map fun b=>num x b)[y]? =some (num x y):=by rw[List.getElem?_map,List.getElem?_range (by omega)];rfl
  have gtab:Gives (Bq K (Ae 5) "above") ([some (.ref g),some (.ref nl),some (.ref tl),some (.int x),some (.int y),some (.ref t)]:L2.St) H' (.ref la):=A9 (AQ rfl) hti T.E9 T.Eg rfl
  have gbel:Gives (Bq K (Ae 5) "below") ([some (.ref g),some (.ref nl),some (.ref tl),some (.int x),some (.int y),some (.ref t)]:L2.St) H' (.int den):=A9 (AQ rfl) hti T.E9 T.DB rfl
  refine fn_ (AV (Fc (K:=K) (Fc (K:=K) gtab (AQ rfl) (SqL.of hla) (Oh hr0)) (AQ rfl) (SqL.of hrr) (NN hnum)) (AV gbel (Bi ⟨_,den,rfl,R.pos,(Zy R hn8).more (by decide),fun q H2 s2 n2 e2=>?_⟩)))
  obtain⟨q1,q2⟩:=JA hg Ft F' b' s2
  exact k4 q H2 _ q1 q2 (Fe.refl _ _) e2
def OS (D:Duel)(n:Nat)(mine:Bool)(x y:Nat):List Int:=match D.best n mine x y with
 |some i=>[(i:Int)+1]
 |none=>[]
def Z3 (a:Ad):Sp:=fun vs H Q E=>∃g nl tl O D,∃(n:Nat) (mine:Bool) (x y:Nat),vs=[.ref g,.ref nl,.ref tl]/\A2 a H g O (some D)/\H nl=some (.lst (iv [(n:Int),Aw mine,(x:Int),(y:Int)]))/\n<=8/\Pts a D x y H E/\
 (Yw D x y->Gv a H g O (some D) (OS D n mine x y) Q)
theorem Z4:AL ["game","numbers","texts","turns","who","a","b","worths"] ["game","numbers","texts"] (AG JC):=⟨rfl,rfl,rfl,by decide +kernel,rfl,by decide +kernel,by decide +kernel⟩
theorem U7:∀{ns:List Nat},m∈ns->∃j:Nat,ns[j]? =some m/\∀i,i<j->ns[i]?≠some m
 |[],h=>absurd h (by simp)
 |x::r,h=>by
  by_cases e:x=m
  ·exact⟨0,by rw[e];rfl,fun i hi=>absurd hi (by omega)⟩
  ·obtain⟨j,h1,h2⟩:=U7 (m:=m) (ns:=r) ((List.mem_cons.mp h).resolve_left fun z=>e z.symm)
   refine⟨j+1,h1,fun i hi=>?_⟩
   cases i with
   |zero=>exact fun z=>e (Option.some.inj z)
   |succ i=>exact h2 i (by omega)
theorem cn (l:List Nat):(nv l).all GG=true:=by
 unfold nv
 rw[List.all_map,List.all_map]
 exact List.all_eq_true.mpr fun x _=>rfl
theorem Cy.Z5 {H:Hp}{f l td x0 la0 lw0 x1 la1 lw1:Addr}{D:Duel}{c0 c1:Nat}{kvs:List (Md×V)}(F:Cy a H f l td x0 la0 lw0 x1 la1 lw1 D c0 c1 kvs)(mine:Bool):Dm.Ff (D.side mine) (cOf mine c0 c1):=by
 cases mine with
 |true=>exact F.s0.sd
 |false=>exact F.s1.sd
theorem Cy.known {H:Hp}{f l td x0 la0 lw0 x1 la1 lw1 t:Addr}{D:Duel}{c0 c1 n:Nat}{mine:Bool}{num:Nat->Nat->Nat}{den:Nat}{kvs:List (Md×V)}(F:Cy a H f l td x0 la0 lw0 x1 la1 lw1 D c0 c1 kvs)(ht:TableAt a H t D.first.hp D.second.hp num den)(R:Dm.Rep D n mine num den)(hn:n<=7):Known a H l t D c0 c1 num den:=by
 refine⟨F.JD,ht,fun x y h1 h2=>R.le x y h1 h2,?_⟩
 have h1:2 ^ (756*n)<=2 ^ 5292:=Nat.pow_le_pow_right (by decide) (by omega)
 have h2:(2:Nat) ^ 5292<2 ^ 5300:=Nat.pow_lt_pow_right (by decide) (by decide)
 exact Nat.lt_of_le_of_lt (Nat.le_trans R.bd h1) h2
theorem iJ (T:Tx K mg a):Fn P w K mg base (CXR P w) 8 a.EM ["game","numbers","texts"] (Z3 a):=by
 obtain⟨fd,F,hb⟩:=T.U8
 refine F.fnR hb Z4 (fun vs H Q E h=>?_) (fun cdv A outer s H vs Q E hr h=>?_)
 ·obtain⟨g,nl,tl,O,D,n,mine,x,y,rfl,_⟩:=h
  rfl
 ·obtain⟨g,nl,tl,O,D,n,mine,x,y,rfl,⟨f,l,td,x0,la0,lw0,x1,la1,lw1,c0,c1,kvs,⟨dg,hg⟩,Ft,rfl⟩,hn,hn8,⟨k1,k2⟩,k3⟩:=h
  have nd:=Z4.nd
  refine⟨_,AD (AN (i:=3) nd rfl (Or.inl rfl) (Aa AR (pv 1) AH (fun _ _=>rfl)))
   (AD (AN (i:=4) nd rfl (Or.inl rfl) (Aa AR (pv 1) AH (fun _ _=>rfl)))
   (AD (AN (i:=5) nd rfl (Or.inl rfl) (Aa AR (pv 1) AH (fun _ _=>rfl)))
   (AD (AN (i:=6) nd rfl (Or.inl rfl) (Aa AR (pv 1) AH (fun _ _=>rfl)))
   (AD (Az (B4 (AJ (pv 0) rfl) T.Ap T.Cj (Z1 T) hr (C5 (E':=E) fun _ _ _ h=>h) (AA (pv 5) (AA (pv 6) AE))))
   (AD (BR (PW.pt (Oi (Ag DC (pv 3) AH (Am _)) (Oi (Ag DC (pv 5) AH (Am _)) (Me (Ag DC (pv 6) AH (Am _)))))) (AF (AO (An AE))) Al)
   (AD (AN (i:=7) nd rfl (Or.inl rfl) (Ac (Z6 T) hr rfl T.Ll Bv (AA (AJ (AJ (pv 0) rfl) rfl) (AA (pv 4) (AA (pv 5) (AA (pv 6) (AA (B4 (AJ (pv 0) rfl) T.Ap T.Gx (Wm T) hr Bv (AA (AS Bm (pv 3) AH) (AA (AS Bm AH (pv 4)) AE))) AE)))))))
   (AF (AO (An (AA (AS Ba (DD PySem.F.plainAttrs_list PySem.F.slot_list_index PySem.F.type_list_index Oj (pv 7) (AA (Ac (fR T) hr rfl T.JE Bv (AA (pv 4) (AA (pv 7) AE))) AE)) AH) AE)))))))))),?_⟩
  obtain⟨df,hf⟩:=Ft.ins
  have gf:∀(σ:L2.St),σ[0]? =some (some (.ref g))->Gives (Bq K (Ae 0) "fight") σ H (.ref f):=fun σ e=>A9 (AQ e) hg T.Fb T.BG rfl
  refine sq_ (E2 (Bw (v:=(n:Int)) hn (i:=0) rfl rfl) (sq_ (E2 (Bw (v:=Aw mine) hn (i:=1) rfl rfl) (sq_ (E2 (Bw (v:=(x:Int)) hn (i:=2) rfl rfl) (sq_ (E2 (Bw (v:=(y:Int)) hn (i:=3) rfl rfl) ?_)))))))
  refine sq_ (mt_ (gf _ rfl) hf rfl (AV (AQ rfl) (AV (AQ rfl) (Bi ⟨f,l,td,x0,la0,lw0,x1,la1,lw1,D,c0,c1,kvs,x,y,rfl,Ft,fun h=>k1 h H (AK.refl H),fun h1 h2 h3=>k2 h1 h2 h3 H (AK.refl H),fun h1 h2 h3 h4=>?_⟩))))
  have k4:=k3 ⟨h1,h2,h3,h4⟩
  have none':(n=0\/x=0\/y=0)->Ql (Z7 DT) {nx:=fun _ H'=>Q .non H',rt:=Q} [some (.ref g),some (.ref nl),some (.ref tl),some (.int n),some (.int (Aw mine)),some (.int x),some (.int y),none] H:=fun h0=>by
   unfold OS at k4
   rw[Dm.Yx D n mine x y h0]at k4
   refine⟨(by show 0<=sizeLine;decide),fun q hq=>?_⟩
   obtain⟨q1,q2⟩:=JA hg Ft Ft (AK.refl H).but (AK.new (o:=.lst []) hq)
   exact k4 q _ _ q1 q2 (Fe.refl _ _) AB
  have gz:∀(i:Nat) (v:Nat),([some (.ref g),some (.ref nl),some (.ref tl),some (.int n),some (.int (Aw mine)),some (.int x),some (.int y),none]:L2.St)[i]? =some (some (.int (v:Int)))->Gives (Ae i) ([some (.ref g),some (.ref nl),some (.ref tl),some (.int n),some (.int (Aw mine)),some (.int x),some (.int y),none]:L2.St) H (.int (v:Int)):=fun i v e=>AQ e
  refine sq_ (BN (gz 3 n rfl) Ax (BY (fun e=>?_) (fun e1=>?_)))
  ·exact LB (none' (.inl (by have:(n:Int)=0:=of_decide_eq_true e;omega)))
  refine BN (gz 5 x rfl) Ax (BY (fun e=>?_) (fun e2=>?_))
  ·exact LB (none' (.inr (.inl (by have:(x:Int)=0:=of_decide_eq_true e;omega))))
  refine BN (gz 6 y rfl) Ax (BY (fun e=>?_) (fun e3=>?_))
  ·exact none' (.inr (.inr (by have:(y:Int)=0:=of_decide_eq_true e;omega)))
  have e1:¬(n:Int)=0:=fun z=>e1 (decide_eq_true z)
  have e2:¬(x:Int)=0:=fun z=>e2 (decide_eq_true z)
  have e3:¬(y:Int)=0:=fun z=>e3 (decide_eq_true z)
  obtain⟨m,rfl⟩:∃m,n=m+1:=⟨n - 1,by omega⟩
  have em:((m+1:Nat):Int) - 1=(m:Int):=by omega
  have ew:=OT mine
  have gs:Gives (Bq K (Bq K (Ae 0) "fight") "sides") ([some (.ref g),some (.ref nl),some (.ref tl),some (.int ((m+1:Nat):Int)),some (.int (Aw mine)),some (.int x),some (.int y),none]:L2.St) H (.ref l):=A9 (gf _ rfl) hf T.Ap T.Aq rfl
  have gm:Gives (tOp (rI0 fun i j=>.int (i - j)) (Ae 3) (tC (.int 1))) ([some (.ref g),some (.ref nl),some (.ref tl),some (.int ((m+1:Nat):Int)),some (.int (Aw mine)),some (.int x),some (.int y),none]:L2.St) H (.int (m:Int)):=fun Q q=>gz 3 (m+1) rfl _ ⟨_,_,rfl,rfl,by show Q (V.int _) H;rw[em];exact q⟩
  have gw:Gives (tOp (rI0 fun i j=>.int (i - j)) (tC (.int 1)) (Ae 4)) ([some (.ref g),some (.ref nl),some (.ref tl),some (.int ((m+1:Nat):Int)),some (.int (Aw mine)),some (.int x),some (.int y),none]:L2.St) H (.int (Aw (!mine))):=fun Q q=>⟨_,rfl,_,_,rfl,rfl,by show Q (V.int _) H;rw[ew];exact q⟩
  refine nx_ (sq_ (fn_ (AV gs (AV (AQ rfl) (AV (AQ rfl) (AV (AQ rfl) ?_))))))
  refine mt_ (gf _ rfl) hf rfl (AV gm (AV gw (Bi ⟨f,l,td,x0,la0,lw0,x1,la1,lw1,D,c0,c1,kvs,m,!mine,rfl,Ft,h3,h4,by omega,fun t num den kvs' H' F' b' ht R=>?_⟩)))
  refine⟨l,t,mine,x,y,D,c0,c1,num,den,rfl,F'.known ht R (by omega),h1,h2,fun q H2 s2 n2 e2'=>?_⟩
  have ne:Dm.Dq D mine (cOf mine c0 c1) num x y≠[]:=fun z=>by
   unfold Dm.Dq at z
   have z:=List.map_eq_nil_iff.mp z
   cases mine with
   |true=>exact h3 z
   |false=>exact h4 z
  have wp:=Dm.JF (mine:=mine) ne
  obtain⟨j,j1,j2⟩:=U7 wp.1
  have eb:=Dm.Z8 R (F'.Z5 mine) h1 h2 (by omega) (by omega) wp j1 j2
  unfold OS at k4
  rw[eb]at k4
  refine⟨_,rfl,.inl ⟨rfl,_,SqL.of e2'⟩,_,rfl,_,rfl,q,mine,_,rfl,SqL.of e2',ne,?_⟩
  refine⟨q,_,_,j,_,rfl,rfl,SqL.of e2',rfl,cn _,NN j1,by rw[Hu];exact decide_eq_true rfl,?_,?_⟩
  ·intro i z hi hz
   obtain⟨z',hz',rfl⟩:=NO hz
   rw[Hu]
   refine decide_eq_false fun e=>j2 i hi ?_
   rw[hz',Int.ofNat.inj e]
  ·refine⟨_,_,rfl,rfl,(by show 1<=sizeLine;decide),fun r hr'=>?_⟩
   obtain⟨q1,q2⟩:=JA hg Ft F' b' (s2.trans (AK.new (o:=.lst [.int ((j:Int)+1)]) hr'))
   exact k4 r _ _ q1 q2 (Fe.refl _ _) AB
def cp (D:Duel)(mine:Bool):List Int:=((D.side mine).hp:Int)::(D.side mine).acts.flatMap fun x=>(if x.heals=true then 1 else 0)::(x.total:Int)::x.outs.map fun(n:Nat)=>(n:Int)
def Bx (x:Act):List Int:=(if x.heals=true then 1 else 0)::(x.total:Int)::x.outs.map fun(n:Nat)=>(n:Int)
def Z9 (a:Ad):Sp:=fun vs H Q E=>∃g nl tl O D,∃mine:Bool,vs=[.ref g,.ref nl,.ref tl]/\A2 a H g O (some D)/\H nl=some (.lst (iv [Aw mine]))/\Gv a H g O (some D) (cp D mine) Q
theorem aA:AL ["game","numbers","texts","side","told","act"] ["game","numbers","texts"] (AG JG):=⟨rfl,rfl,rfl,by decide +kernel,rfl,by decide +kernel,by decide +kernel⟩
theorem iK (T:Tx K mg a):Fn P w K mg base CX0 2 a.EN ["game","numbers","texts"] (Z9 a):=by
 obtain⟨fd,F,hb⟩:=T.U9
 refine F.fn hb aA (fun vs H Q E h=>?_) (fun cdv A outer s H vs Q E hr h=>?_)
 ·obtain⟨g,nl,tl,O,D,mine,rfl,_⟩:=h
  rfl
 ·obtain⟨g,nl,tl,O,D,mine,rfl,⟨f,l,td,x0,la0,lw0,x1,la1,lw1,c0,c1,kvs,⟨dg,hg⟩,Ft,rfl⟩,hn,k⟩:=h
  have nd:=aA.nd
  have hs:sizeLine=16777216:=sizeLine_eq
  refine⟨_,AD (AN (i:=3) nd rfl (Or.inl rfl) (Aa AR (AJ (AJ (pv 0) rfl) rfl) (Aa AR (pv 1) AH (fun _ _=>rfl)) (fun _ _=>rfl)))
   (AD (AN (i:=4) nd rfl (Or.inl rfl) (An (AA (AJ (pv 3) rfl) AE)))
   (AD (BD PassesOwn.never rfl (Cz (AJ (pv 3) rfl)) (AX (i:=5) nd rfl (Or.inl rfl))
    (AD (Az (DD PySem.F.plainAttrs_list PySem.F.slot_list_append PySem.F.type_list_append BM (pv 4) (AA (Es (LC (AJ (pv 5) rfl)) AH AH) AE)))
    (AD (Az (DD PySem.F.plainAttrs_list PySem.F.slot_list_append PySem.F.type_list_append BM (pv 4) (AA (Ck (pv 5) T.Kx T.JH (Hv T) hr AU) AE)))
    (AF (Az (DD PySem.F.plainAttrs_list PySem.F.slot_list_extend PySem.F.type_list_extend Mf (pv 4) (AA (AJ (pv 5) rfl) AE)))))))
   (AF (AO (pv 4))))),?_⟩
  obtain⟨df,hf⟩:=Ft.ins
  obtain⟨x,la,lw,n,ew,en,S⟩:=Ft.own mine
  obtain⟨dx,hx⟩:=S.ins
  obtain⟨as,hla,pas⟩:=S.acts
  have las:as.length=(D.side mine).acts.length:=pas.length
  have few:=S.sd.few
  have g0:Gives (tOp (N0 K) (Bq K (Bq K (Ae 0) "fight") "sides") (tOp (N0 K) (Ae 1) (tC (.int 0)))) ([some (.ref g),some (.ref nl),some (.ref tl),none,none,none]:L2.St) H (.ref x):=
   Fc (n:=n) (A9 (A9 (AQ rfl) hg T.Fb T.BG rfl) hf T.Ap T.Aq rfl) (by rw[<-ew];exact Bw hn (i:=0) rfl rfl) (SqL.of Ft.lst) en
  refine sq_ (E2 g0 ?_)
  refine⟨_,rfl,x,a.Side,dx,_,_,rfl,hx,T.BA,T.CC,rfl,(by show 1<=sizeLine;decide),fun t ht=>?_⟩
  have s1:AK H (upd H t (.lst [.int (D.side mine).hp])):=.new ht
  refine⟨_,rfl,x,a.Side,dx,_,_,rfl,s1 _ _ hx,T.BA,T.BS,rfl,la,rfl,⟨_,SqL.of (s1 _ _ hla)⟩,Dr (K:=K) (a:=la) (xs:=as.map V.ref)
   (fun i σ H'=>∃v:Option V,σ=[some (.ref g),some (.ref nl),some (.ref tl),some (.ref x),some (.ref t),v]/\AK H H'/\H' t=some (.lst (iv (((D.side mine).hp:Int)::((D.side mine).acts.take i).flatMap Bx)))/\(((D.side mine).acts.take i).flatMap Bx).length<=18*i)
   ⟨none,rfl,s1,AB,Nat.zero_le _⟩ (fun i σ H' _ ⟨_,_,s2,_⟩=>SqL.of (s2 _ _ hla)) ?_ ?_⟩
  ·rintro i v σ H' hi ⟨v',rfl,s2,et,hlen⟩
   obtain⟨z,hz,rfl⟩:=Ol hi
   obtain⟨act,hact,hA⟩:=pas.at1 hz
   have hi3:i<3:=by have:=(List.getElem?_eq_some_iff.mp hact).1;omega
   have good:=(S.sd.good act (List.mem_of_getElem? hact)).1
   obtain⟨c,⟨dz,hzi⟩,hc⟩:=id (hA.same s2)
   have ntz:z≠t:=Af hzi et (fun q=>nomatch q)
   have nct:c≠t:=fun q=>by
    have e0:H t=none:=ht
    obtain⟨c',⟨dz',hzi'⟩,hc'⟩:=hA
    have:=s2 _ _ hzi'
    rw[hzi]at this
    injection this with this
    injection this with _ _ this
    injection this with _ this
    injection this with this
    have:=(congrArg Prod.snd this)
    have:c=c':=V.ref.inj this
    rw[<-this,q,e0]at hc'
    cases hc'
   have gh:Gives (tIf (tB (Bq K (Ae 5) "heals")) (tC (.int 1)) (tC (.int 0))) ([some (.ref g),some (.ref nl),some (.ref tl),some (.ref x),some (.ref t),some (.ref z)]:L2.St) H' (.int (if act.heals=true then 1 else 0)):=fun Q q=>by
    have gq:Gives (Bq K (Ae 5) "heals") ([some (.ref g),some (.ref nl),some (.ref tl),some (.ref x),some (.ref t),some (.ref z)]:L2.St) H' (.bl act.heals):=A9 (AQ rfl) hzi T.Kx T.JI rfl
    refine fS gq (Ax (v:=.int 1)) (Ax (v:=.int 0)) Q ?_
    cases hh:act.heals with
    |true=>rw[hh]at q;exact q
    |false=>rw[hh]at q;exact q
   refine sq_ ?_
   refine⟨_,rfl,.inl ⟨rfl,_,SqL.of et⟩,gh _ ⟨t,_,_,rfl,rfl,et,by rw[Ay,List.length_cons];omega,?_⟩⟩
   have kp1:∀b o,b≠t->H' b=some o->(upd H' t (.lst (iv (((D.side mine).hp:Int)::((D.side mine).acts.take i).flatMap Bx)++[.int (if act.heals=true then 1 else 0)]))) b=some o:=fun b o nb e=>by rw[AI nb];exact e
   have et1:(upd H' t (.lst (iv (((D.side mine).hp:Int)::((D.side mine).acts.take i).flatMap Bx)++[.int (if act.heals=true then 1 else 0)]))) t=some (.lst (iv (((D.side mine).hp:Int)::((D.side mine).acts.take i).flatMap Bx++[if act.heals=true then 1 else 0]))):=AB.trans (congrArg (fun z=>some (HO.lst z)) (DU _ [if act.heals=true then 1 else 0]))
   generalize upd H' t (.lst (iv (((D.side mine).hp:Int)::((D.side mine).acts.take i).flatMap Bx)++[.int (if act.heals=true then 1 else 0)]))=H2 at kp1 et1
   have hA2:CF a H2 z act:=⟨c,⟨dz,kp1 _ _ ntz hzi⟩,kp1 _ _ nct hc⟩
   refine⟨_,rfl,.inl ⟨rfl,_,SqL.of et1⟩,_,rfl,z,dz,_,rfl,kp1 _ _ ntz hzi,rfl,z,act,rfl,hA2,?_⟩
   refine⟨t,_,_,rfl,rfl,et1,by rw[Ay,List.length_append,List.length_cons];show _+1<_;omega,?_⟩
   rw[good.sum]
   have kp2:∀b o,b≠t->H2 b=some o->(upd H2 t (.lst (iv (((D.side mine).hp:Int)::((D.side mine).acts.take i).flatMap Bx++[if act.heals=true then 1 else 0])++[.int (act.total:Nat)]))) b=some o:=fun b o nb e=>by rw[AI nb];exact e
   have et2:(upd H2 t (.lst (iv (((D.side mine).hp:Int)::((D.side mine).acts.take i).flatMap Bx++[if act.heals=true then 1 else 0])++[.int (act.total:Nat)]))) t=some (.lst (iv (((D.side mine).hp:Int)::((D.side mine).acts.take i).flatMap Bx++[if act.heals=true then 1 else 0]++[(act.total:Int)]))):=AB.trans (congrArg (fun z=>some (HO.lst z)) (DU _ [(act.total:Int)]))
   generalize upd H2 t (.lst (iv (((D.side mine).hp:Int)::((D.side mine).acts.take i).flatMap Bx++[if act.heals=true then 1 else 0])++[.int (act.total:Nat)]))=H3 at kp2 et2
   refine⟨_,rfl,.inl ⟨rfl,_,SqL.of et2⟩,_,rfl,z,a.Act,dz,_,_,rfl,kp2 _ _ ntz (kp1 _ _ ntz hzi),T.Kx,T.FA,rfl,?_⟩
   refine⟨t,c,_,_,rfl,rfl,et2,kp2 _ _ nct (kp1 _ _ nct hc),?_,?_⟩
   ·rw[Ay,Ar,good.len,List.length_append,List.length_append,List.length_cons]
    show _+1+1+1+16<=_
    omega
   ·have ef:((D.side mine).acts.take (i+1)).flatMap Bx=((D.side mine).acts.take i).flatMap Bx++Bx act:=by
     rw[List.take_add_one,hact,List.flatMap_append]
     show _++(Bx act++[])=_
     rw[List.append_nil]
    refine⟨_,rfl,fun b o e=>?_,?_,?_⟩
    ·have nb:b≠t:=AM e ht
     rw[AI nb]
     exact kp2 _ _ nb (kp1 _ _ nb (s2 _ _ e))
    ·rw[AB,jv,DU,ef]
     unfold Bx
     simp
    ·rw[ef,List.length_append]
     have:(Bx act).length=18:=by
      unfold Bx
      rw[List.length_cons,List.length_cons,List.length_map,good.len]
     omega
  ·rintro σ H' ⟨v',rfl,s2,et,hlen⟩
   rw[List.length_map,las,List.take_length]at et
   refine⟨_,rfl,?_⟩
   obtain⟨q1,q2⟩:=JA hg Ft Ft (AK.refl H).but s2
   exact k t H' _ q1 q2 (Fe.refl _ _) et
def cD (a:Ad):Sp:=fun vs H Q E=>∃g nl tl O D,∃(mine:Bool) (pl n x y:Nat),vs=[.ref g,.ref nl,.ref tl]/\A2 a H g O (some D)/\H nl=some (.lst (iv [Aw mine,(pl:Int)+1,(n:Int)+1,(x:Int),(y:Int)]))/\n<=7/\Pts a D x y H E/\
 (Yw D x y->(D.side mine).acts.length<=pl->BU a a.Bg H E)/\(Yw D x y->pl<(D.side mine).acts.length->(x=0\/y=0)->BU a a.BC H E)/\
 ∀act,Yw D x y->(D.side mine).acts[pl]? =some act->0<x->0<y->Gv a H g O (some D) (Vbrgag.told (Vbrgag.worthOf D (Vbrgag.tableOf D n (!mine)) mine act x y)) Q
theorem cQ:AL ["game","numbers","texts","who","place","a","b","side","behind"] ["game","numbers","texts"] (AG IY):=⟨rfl,rfl,rfl,by decide +kernel,rfl,by decide +kernel,by decide +kernel⟩
theorem ji (T:Tx K mg a):Fn P w K mg base (CXR P w) 8 a.Dh ["game","numbers","texts"] (cD a):=by
 obtain⟨fd,F,hb⟩:=T.UY
 refine F.fnR hb cQ (fun vs H Q E h=>?_) (fun cdv A outer s H vs Q E hr h=>?_)
 ·obtain⟨g,nl,tl,O,D,mine,pl,n,x,y,rfl,_⟩:=h
  rfl
 ·obtain⟨g,nl,tl,O,D,mine,pl,n,x,y,rfl,⟨f,l,td,x0,la0,lw0,x1,la1,lw1,c0,c1,kvs,⟨dg,hg⟩,Ft,rfl⟩,hn,hn7,⟨k1,k2⟩,k3,k4,k5⟩:=h
  have nd:=cQ.nd
  refine⟨_,AD (AN (i:=3) nd rfl (Or.inl rfl) (Aa AR (pv 1) AH (fun _ _=>rfl)))
   (AD (AN (i:=4) nd rfl (Or.inl rfl) (AS Bm (Aa AR (pv 1) AH (fun _ _=>rfl)) AH))
   (AD (AN (i:=5) nd rfl (Or.inl rfl) (Aa AR (pv 1) AH (fun _ _=>rfl)))
   (AD (AN (i:=6) nd rfl (Or.inl rfl) (Aa AR (pv 1) AH (fun _ _=>rfl)))
   (AD (Az (B4 (AJ (pv 0) rfl) T.Ap T.Cj (Z1 T) hr (C5 (E':=E) fun _ _ _ h=>h) (AA (pv 5) (AA (pv 6) AE))))
   (AD (AN (i:=7) nd rfl (Or.inl rfl) (Aa AR (AJ (AJ (pv 0) rfl) rfl) (pv 3) (fun _ _=>rfl)))
   (AD (BR (Ag fT (pv 4) (AZ Ai rfl T.EJ CU (AA (AJ (pv 7) rfl) AE)) (Am _)) (AF (BW CY rfl rfl T.Ju T.Bf)) Al)
   (AD (BR (PW.pt (Oi (Ag DC (pv 5) AH (Am _)) (Me (Ag DC (pv 6) AH (Am _))))) (AF (BW CY rfl rfl T.K6 T.BF)) Al)
   (AD (AN (i:=8) nd rfl (Or.inl rfl) (B4 (AJ (pv 0) rfl) T.Ap T.Gx (Wm T) hr Bv (AA (AS Bm (Aa AR (pv 1) AH (fun _ _=>rfl)) AH) (AA (AS Bm AH (pv 3)) AE))))
   (AF (AO (Ac (Og T) hr rfl T.Bh Bv (AA (Ac (f9 T) hr rfl T.Nt Bv (AA (AJ (AJ (pv 0) rfl) rfl) (AA (pv 3) (AA (pv 4) (AA (pv 5) (AA (pv 6) (AA (pv 8) AE))))))) (AA (AS BK (AJ (pv 7) rfl) (AJ (pv 8) rfl)) AE))))))))))))),?_⟩
  obtain⟨df,hf⟩:=Ft.ins
  obtain⟨xs,la,lw,i0,ew,en,S⟩:=Ft.own mine
  obtain⟨dx,hx⟩:=S.ins
  obtain⟨as,hla,pas⟩:=S.acts
  have las:as.length=(D.side mine).acts.length:=pas.length
  have gf:∀(σ:L2.St),σ[0]? =some (some (.ref g))->Gives (Bq K (Ae 0) "fight") σ H (.ref f):=fun σ e=>A9 (AQ e) hg T.Fb T.BG rfl
  have gpl:Gives (tOp (rI0 fun i j=>.int (i - j)) (tOp (N0 K) (Ae 1) (tC (.int 1))) (tC (.int 1))) ([some (.ref g),some (.ref nl),some (.ref tl),some (.int (Aw mine)),none,none,none,none,none]:L2.St) H (.int (pl:Int)):=fun Q q=>Bw (K:=K) (v:=(pl:Int)+1) hn (i:=1) rfl rfl _ ⟨_,_,rfl,rfl,by show Q (V.int _) H;rw[show(pl:Int)+1 - 1=pl by omega];exact q⟩
  refine sq_ (E2 (Bw (v:=Aw mine) hn (i:=0) rfl rfl) (sq_ (E2 gpl (sq_ (E2 (Bw (v:=(x:Int)) hn (i:=3) rfl rfl) (sq_ (E2 (Bw (v:=(y:Int)) hn (i:=4) rfl rfl) ?_)))))))
  refine sq_ (mt_ (gf _ rfl) hf rfl (AV (AQ rfl) (AV (AQ rfl) (Bi ⟨f,l,td,x0,la0,lw0,x1,la1,lw1,D,c0,c1,kvs,x,y,rfl,Ft,fun h=>k1 h H (AK.refl H),fun h1 h2 h3=>k2 h1 h2 h3 H (AK.refl H),fun h1 h2 h3 h4=>?_⟩))))
  have fine:Yw D x y:=⟨h1,h2,h3,h4⟩
  have g7:Gives (tOp (N0 K) (Bq K (Bq K (Ae 0) "fight") "sides") (Ae 3)) ([some (.ref g),some (.ref nl),some (.ref tl),some (.int (Aw mine)),some (.int pl),some (.int x),some (.int y),none,none]:L2.St) H (.ref xs):=
   Fc (n:=i0) (A9 (gf _ rfl) hf T.Ap T.Aq rfl) (AQ (by rw[<-ew];rfl)) (SqL.of Ft.lst) en
  refine sq_ (E2 g7 ?_)
  have gl:Gives (tCB (fun xs H Q=>∃p ys,xs=[.ref p]/\(SqL K H p ys\/SqT K H p ys)/\Q (.int ys.length) H) (CG (Bq K (Ae 7) "acts") DT)) ([some (.ref g),some (.ref nl),some (.ref tl),some (.int (Aw mine)),some (.int pl),some (.int x),some (.int y),some (.ref xs),none]:L2.St) H (.int ((as.map V.ref).length:Nat)):=
   Mi (A9 (AQ rfl) hx T.BA T.BS rfl) (SqL.of hla)
  have gv4:Gives (Ae 4) ([some (.ref g),some (.ref nl),some (.ref tl),some (.int (Aw mine)),some (.int pl),some (.int x),some (.int y),some (.ref xs),none]:L2.St) H (.int (pl:Int)):=AQ rfl
  refine sq_ (CZ gv4 gl (BY (fun e1=>?_) (fun e1=>?_)))
  ·have e1:(((as.map V.ref).length:Nat):Int)<=(pl:Int):=of_decide_eq_true e1
   rw[List.length_map]at e1
   exact k3 fine (by omega) H (AK.refl H)
  have e1:¬(((as.map V.ref).length:Nat):Int)<=(pl:Int):=fun z=>e1 (decide_eq_true z)
  rw[List.length_map]at e1
  have hpl:pl<(D.side mine).acts.length:=by omega
  obtain⟨act,hact⟩:∃act,(D.side mine).acts[pl]? =some act:=⟨(D.side mine).acts[pl],List.getElem?_eq_getElem hpl⟩
  have gx:Gives (Ae 5) ([some (.ref g),some (.ref nl),some (.ref tl),some (.int (Aw mine)),some (.int pl),some (.int x),some (.int y),some (.ref xs),none]:L2.St) H (.int (x:Int)):=AQ rfl
  have gy:Gives (Ae 6) ([some (.ref g),some (.ref nl),some (.ref tl),some (.int (Aw mine)),some (.int pl),some (.int x),some (.int y),some (.ref xs),none]:L2.St) H (.int (y:Int)):=AQ rfl
  refine nx_ (sq_ (BN gx Ax (BY (fun e2=>?_) (fun e2=>?_))))
  ·have e2:(x:Int)=0:=of_decide_eq_true e2
   exact LB (k4 fine hpl (.inl (by omega)) H (AK.refl H))
  refine BN gy Ax (BY (fun e3=>?_) (fun e3=>?_))
  ·have e3:(y:Int)=0:=of_decide_eq_true e3
   exact k4 fine hpl (.inr (by omega)) H (AK.refl H)
  have e2:¬(x:Int)=0:=fun z=>e2 (decide_eq_true z)
  have e3:¬(y:Int)=0:=fun z=>e3 (decide_eq_true z)
  have k6:=k5 act fine hact (by omega) (by omega)
  have gm:Gives (tOp (rI0 fun i j=>.int (i - j)) (tOp (N0 K) (Ae 1) (tC (.int 2))) (tC (.int 1))) ([some (.ref g),some (.ref nl),some (.ref tl),some (.int (Aw mine)),some (.int pl),some (.int x),some (.int y),some (.ref xs),none]:L2.St) H (.int (n:Int)):=fun Q q=>Bw (K:=K) (v:=(n:Int)+1) hn (i:=2) rfl rfl _ ⟨_,_,rfl,rfl,by show Q (V.int _) H;rw[show(n:Int)+1 - 1=n by omega];exact q⟩
  have gw:Gives (tOp (rI0 fun i j=>.int (i - j)) (tC (.int 1)) (Ae 3)) ([some (.ref g),some (.ref nl),some (.ref tl),some (.int (Aw mine)),some (.int pl),some (.int x),some (.int y),some (.ref xs),none]:L2.St) H (.int (Aw (!mine))):=fun Q q=>⟨_,rfl,_,_,rfl,rfl,by show Q (V.int _) H;rw[OT];exact q⟩
  refine nx_ (sq_ (mt_ (gf _ rfl) hf rfl (AV gm (AV gw (Bi ⟨f,l,td,x0,la0,lw0,x1,la1,lw1,D,c0,c1,kvs,n,!mine,rfl,Ft,h3,h4,by omega,fun t num den kvs' H' F' b' ht R=>?_⟩)))))
  have hsd:=F'.Z5 mine
  rw[Dm.Xz R hsd (List.mem_of_getElem? hact) h1 h2]at k6
  obtain⟨xs',la',lw',i1,ew',en',S'⟩:=F'.own mine
  have ei:i1=i0:=by omega
  rw[ei,en]at en'
  have exs:xs=xs':=V.ref.inj (Option.some.inj en')
  subst exs
  obtain⟨dx',hx'⟩:=S'.ins
  obtain⟨laT,rows,⟨dt,hti⟩,hlaT,hrl,hrows⟩:=id ht
  have hg':=b' _ _ (Af hg Ft.td (fun z=>nomatch z)) hg
  obtain⟨df',hf'⟩:=F'.ins
  have gs:Gives (Bq K (Bq K (Ae 0) "fight") "sides") ([some (.ref g),some (.ref nl),some (.ref tl),some (.int (Aw mine)),some (.int pl),some (.int x),some (.int y),some (.ref xs),some (.ref t)]:L2.St) H' (.ref l):=A9 (A9 (AQ rfl) hg' T.Fb T.BG rfl) hf' T.Ap T.Aq rfl
  refine fn_ (fn_ (AV gs (AV (AQ rfl) (AV (AQ rfl) (AV (AQ rfl) (AV (AQ rfl) (AV (AQ rfl) (Bi ?_))))))))
  refine⟨l,t,mine,pl,x,y,D,c0,c1,num,den,act,rfl,F'.known ht R hn7,hact,h1,h2,fun H2 s2=>?_⟩
  have gc:Gives (Bq K (Ae 7) "common") ([some (.ref g),some (.ref nl),some (.ref tl),some (.int (Aw mine)),some (.int pl),some (.int x),some (.int y),some (.ref xs),some (.ref t)]:L2.St) H2 (.int (cOf mine c0 c1:Nat)):=A9 (AQ rfl) (s2 _ _ hx') T.BA T.Bz rfl
  have gd:Gives (Bq K (Ae 8) "below") ([some (.ref g),some (.ref nl),some (.ref tl),some (.int (Aw mine)),some (.int pl),some (.int x),some (.int y),some (.ref xs),some (.ref t)]:L2.St) H2 (.int den):=A9 (AQ rfl) (s2 _ _ hti) T.E9 T.DB rfl
  have bdc:Bd 760 (cOf mine c0 c1):=Nat.lt_of_le_of_lt hsd.bd3 (Nat.pow_lt_pow_right (by decide) (by decide))
  have bdd:=Zy R (show n<=8 by omega)
  have et:((cOf mine c0 c1:Nat):Int)*(den:Int)=((cOf mine c0 c1*den:Nat):Int):=by push_cast;rfl
  refine AV (T3 (g:=fun i j=>V.int (i*j)) gc gd (bdc.cw bdd (by decide))) (Bi ?_)
  refine⟨(Dm.Dc D mine act (cOf mine c0 c1) num x y:Nat),cOf mine c0 c1*den,congrArg (fun z=>[V.int _,V.int z]) et,Nat.mul_pos hsd.pos R.pos,(bdc.mul bdd).more (by decide),fun q H3 s3 n3 e4=>?_⟩
  obtain⟨q1,q2⟩:=JA hg Ft F' b' (s2.trans s3)
  exact k6 q H3 _ q1 q2 (Fe.refl _ _) e4
end
theorem hU:Passes CX0 X E:=fun _ _ _ _ _ _ _ h=>h.elim
section
variable {P:Program}{w:World}{K:PySem.W.Frag}{mg:Str->Option Value}{base:Heap}{a:Ad}
def fSp (a:Ad):Nat->Sp
 |7=>hW a
 |8=>gA a
 |9=>gC a
 |10=>Zz a
 |11=>Z3 a
 |12=>Z9 a
 |13=>cD a
 |_=>fun _ _ _ _=>False
def fAd (a:Ad):Nat->Addr
 |7=>a.Dg
 |8=>a.ES
 |9=>a.EU
 |10=>a.EL
 |11=>a.EM
 |12=>a.EN
 |_=>a.Dh
theorem jg (h:fSp a c vs H Q E):7<=c/\c<14:=by
 match c,h with
 |7,_=>decide
 |8,_=>decide
 |9,_=>decide
 |10,_=>decide
 |11,_=>decide
 |12,_=>decide
 |13,_=>decide
 |0,h=>exact h.elim
 |1,h=>exact h.elim
 |2,h=>exact h.elim
 |3,h=>exact h.elim
 |4,h=>exact h.elim
 |5,h=>exact h.elim
 |6,h=>exact h.elim
 |c+14,h=>exact h.elim
theorem jh (a:Ad)(c:Nat)(h:7<=c/\c<14):tabAt [(7,.ref a.Dg),(8,.ref a.ES),(9,.ref a.EU),(10,.ref a.EL),(11,.ref a.EM),(12,.ref a.EN),(13,.ref a.Dh)] (c:Int)=some (Value.ref (fAd a c)):=by
 match c,h with
 |7,_=>rfl
 |8,_=>rfl
 |9,_=>rfl
 |10,_=>rfl
 |11,_=>rfl
 |12,_=>rfl
 |13,_=>rfl
 |c+14,h=>omega
theorem lx (T:Tx K mg a)(c:Nat)(h:7<=c/\c<14):
  ∃CX k,Fn P w K mg base CX k (fAd a c) ["game","numbers","texts"] (fSp a c)/\k<=8/\Passes CX (Fp (CXR P w) P w K mg base N qual scope f cdv A outer s H E) E:=by
 match c,h with
 |7,_=>exact⟨_,_,ly T,by decide,hU⟩
 |8,_=>exact⟨_,_,lB T,by decide,C5 fun _ _ _ h=>h⟩
 |9,_=>exact⟨_,_,lC T,by decide,C5 fun _ _ _ h=>h⟩
 |10,_=>exact⟨_,_,iI T,by decide,C5 fun _ _ _ h=>h⟩
 |11,_=>exact⟨_,_,iJ T,by decide,C5 fun _ _ _ h=>h⟩
 |12,_=>exact⟨_,_,iK T,by decide,hU⟩
 |13,_=>exact⟨_,_,ji T,by decide,C5 fun _ _ _ h=>h⟩
 |c+14,h=>omega
def l4 (a:Ad):Sp:=fun vs H Q E=>∃c:Nat,∃g nl tl,vs=[.ref g,.int c,.ref nl,.ref tl]/\fSp a c [.ref g,.ref nl,.ref tl] H Q E
theorem l6:AL ["game","call","numbers","texts"] ["game","call","numbers","texts"] (AG C9):=⟨rfl,rfl,rfl,by decide +kernel,rfl,by decide +kernel,by decide +kernel⟩
theorem j0 (T:Tx K mg a):Fn P w K mg base (CXR P w) 9 a.Cf ["game","call","numbers","texts"] (l4 a):=by
 obtain⟨fd,F,hb⟩:=T.Ks
 refine F.fnR hb l6 (fun vs H Q E h=>?_) (fun cdv A outer s H vs Q E hr h=>?_)
 ·obtain⟨c,g,nl,tl,rfl,_⟩:=h
  rfl
 ·obtain⟨c,g,nl,tl,rfl,h⟩:=h
  refine⟨_,AF (AO (WW (Φ:=fun f sp=>∃c,(7<=c/\c<14)/\f=fAd a c/\sp=fSp a c) (E:=E) hr (OV rfl T.RY T.lq (pv 1) (fun _ _=>rfl)) (AA (pv 0) (AA (pv 2) (AA (pv 3) AE))) ?_)),?_⟩
  ·rintro f sp ⟨c,hc,rfl,rfl⟩
   obtain⟨CX,k,G,hk,hx⟩:=lx T c hc
   exact⟨CX,k,_,G,hk,hx⟩
  ·have hc:=jg h
   exact⟨_,rfl,c,_,.ref (fAd a c),rfl,jh a c hc,rfl,_,_,rfl,⟨c,hc,rfl,rfl⟩,_,rfl,_,rfl,_,rfl,h⟩
end
def Kl (a:Ad)(H:Hp)(rd cl:Addr)(p:Nat):Prop:=Bt H rd a.Reader [("calls",.ref cl),("place",.int p)]
theorem Mx {K:PySem.W.Frag}{a:Ad}{H H':Hp}{rd cl:Addr}{p:Nat}{xs:List V}(h:SqL K H cl xs)(r:Kl a H rd cl p)(b:But rd H H'):SqL K H' cl xs:=by
 obtain⟨d,r⟩:=r
 rcases h with h|h
 ·rcases h with h|⟨o,h⟩
  ·exact .inl (.inl (b _ _ (Af h r (fun z=>nomatch z)) h))
  ·exact .inl (.inr ⟨o,b _ _ (Af h r (fun z=>nomatch z)) h⟩)
 ·exact .inr h
section
variable {P:Program}{w:World}{K:PySem.W.Frag}{mg:Str->Option Value}{base:Heap}{a:Ad}
def Qa (a:Ad):Sp:=fun vs H Q _=>∃x dx cl,vs=[.ref x,.ref cl]/\H x=some (.ins a.Reader dx [])/\∀H',Kl a H' x cl 0->But x H H'->Q .non H'
theorem Qb:AL ["self","calls"] ["self","calls"] (AG HW):=⟨rfl,rfl,rfl,by decide +kernel,rfl,by decide +kernel,by decide +kernel⟩
theorem PU (T:Tx K mg a):Fn P w K mg base CX0 1 a.Gs ["self","calls"] (Qa a):=by
 obtain⟨fd,F,hb⟩:=T.RX
 refine F.fn hb Qb (fun vs H Q E h=>?_) (fun cdv A outer s H vs Q E hr h=>?_)
 ·obtain⟨x,dx,cl,rfl,_⟩:=h
  rfl
 ·obtain⟨x,dx,cl,rfl,hx,k⟩:=h
  refine⟨_,AD (BH (pv 0) (pv 1) rfl) (AF (BH (pv 0) AH rfl)),?_⟩
  refine⟨_,rfl,_,rfl,x,a.Reader,dx,[],rfl,hx,T.B8,T.GC,(by show 0<1000;decide),?_⟩
  refine⟨_,rfl,x,a.Reader,dx,_,rfl,AB,T.B8,T.EH,(by show 1<1000;decide),?_⟩
  exact k _ ⟨dx,by rw[AB,BP,Ak (by decide),BP];rfl⟩ (But.upd.trans But.upd)
def fG (K:PySem.W.Frag)(a:Ad):Sp:=fun vs H Q _=>∃x cl,∃(p:Nat) (cs:List Int),vs=[.ref x]/\Kl a H x cl p/\SqL K H cl (iv cs)/\Q (.bl (decide (p<cs.length))) H
theorem fH:AL ["self"] ["self"] (AG EE):=⟨rfl,rfl,rfl,by decide +kernel,rfl,by decide +kernel,by decide +kernel⟩
theorem d6 (T:Tx K mg a):Fn P w K mg base CX0 1 a.DQ ["self"] (fG K a):=by
 obtain⟨fd,F,hb⟩:=T.MS
 refine F.fn hb fH (fun vs H Q E h=>?_) (fun cdv A outer s H vs Q E hr h=>?_)
 ·obtain⟨x,cl,p,cs,rfl,_⟩:=h
  rfl
 ·obtain⟨x,cl,p,cs,rfl,⟨dx,hx⟩,hc,k⟩:=h
  refine⟨_,AF (AO (Lq X9 (AJ (pv 0) rfl) (AZ Ai rfl T.EJ CU (AA (AJ (pv 0) rfl) AE)) (Am _))),?_⟩
  refine⟨_,rfl,x,a.Reader,dx,_,_,rfl,hx,T.B8,T.EH,rfl,_,rfl,x,a.Reader,dx,_,_,rfl,hx,T.B8,T.GC,rfl,cl,_,rfl,.inl hc,_,_,rfl,rfl,?_⟩
  show Q (.bl (decide ((p:Int)<(((iv cs).length:Nat):Int)))) H
  rw[Ay,show decide ((p:Int)<((cs.length:Nat):Int))=decide (p<cs.length)from by
   by_cases h:p<cs.length
   ·rw[decide_eq_true h,decide_eq_true (by omega)]
   ·rw[decide_eq_false h,decide_eq_false (by omega)]]
  exact k
def mH (K:PySem.W.Frag)(a:Ad):Sp:=fun vs H Q _=>∃x cl,∃(p m:Nat) (cs:List Int),vs=[.ref x,.int m]/\Kl a H x cl p/\SqL K H cl (iv cs)/\
 ∀l H',Kl a H' x cl (p+m)->But x H H'->H l=none->H' l=some (.lst (iv ((cs.drop p).take m)))->Q (.ref l) H'
theorem iB:AL ["self","many","begin"] ["self","many"] (AG CV):=⟨rfl,rfl,rfl,by decide +kernel,rfl,by decide +kernel,by decide +kernel⟩
theorem YU (T:Tx K mg a):Fn P w K mg base CX0 1 a.B2 ["self","many"] (mH K a):=by
 obtain⟨fd,F,hb⟩:=T.Iw
 refine F.fn hb iB (fun vs H Q E h=>?_) (fun cdv A outer s H vs Q E hr h=>?_)
 ·obtain⟨x,cl,p,m,cs,rfl,_⟩:=h
  rfl
 ·obtain⟨x,cl,p,m,cs,rfl,⟨dx,hx⟩,hc,k⟩:=h
  have nd:=iB.nd
  refine⟨_,AD (AN (i:=2) nd rfl (Or.inl rfl) (AJ (pv 0) rfl)) (AD (BH (pv 0) (AS Ba (pv 2) (pv 1)) rfl)
   (AF (AO (Dy FD (AJ (pv 0) rfl) (Ek (pv 2)) (Ek (AS Ba (pv 2) (pv 1))))))),?_⟩
  refine⟨_,rfl,x,a.Reader,dx,_,_,rfl,hx,T.B8,T.EH,rfl,?_⟩
  refine⟨_,rfl,_,rfl,_,_,rfl,rfl,_,rfl,x,a.Reader,dx,_,rfl,hx,T.B8,T.EH,(by show 2<1000;decide),?_⟩
  have ep:ER "place" (V.int ((p:Int)+(m:Int))) ([("calls",.ref cl),("place",.int p)]:List (Str×V))=([("calls",.ref cl),("place",.int ((p+m:Nat):Int))]:List (Str×V)):=by
   rw[Ak (by decide),IE]
   rfl
  have b1:But x H (upd H x (.ins a.Reader dx (ER "place" (V.int ((p:Int)+(m:Int))) [("calls",.ref cl),("place",.int p)]))):=But.upd
  have hx1:(upd H x (.ins a.Reader dx (ER "place" (V.int ((p:Int)+(m:Int))) [("calls",.ref cl),("place",.int p)]))) x=some (.ins a.Reader dx [("calls",.ref cl),("place",.int ((p+m:Nat):Int))]):=by rw[AB,ep]
  have hc1:=Mx (K:=K) (a:=a) hc ⟨dx,hx⟩ b1
  have fr:∀b,(upd H x (.ins a.Reader dx (ER "place" (V.int ((p:Int)+(m:Int))) [("calls",.ref cl),("place",.int p)]))) b=none->H b=none:=fun b e=>by
   have nb:b≠x:=fun z=>by rw[z,AB]at e;cases e
   rw[AI nb]at e
   exact e
  refine⟨_,rfl,x,a.Reader,dx,_,_,rfl,hx1,T.B8,T.GC,rfl,_,rfl,_,rfl,_,rfl,_,rfl,_,_,rfl,rfl,_,rfl,cl,_,rfl,hc1,fun l hl=>?_⟩
  have ecut:Kj (iv cs) (some (p:Int)) (some ((p:Int)+(m:Int)))=iv ((cs.drop p).take m):=by
   have e:=eU (iv cs) p (p+m)
   rw[UI,UH,Nat.add_sub_cancel_left]at e
   exact e
  have s2:=AK.new (o:=.lst (Kj (iv cs) (some (p:Int)) (some ((p:Int)+(m:Int))))) hl
  exact k l _ ⟨dx,s2 _ _ hx1⟩ (b1.trans s2.but) (fr l hl) (AB.trans (congrArg (fun z=>some (HO.lst z)) ecut))
def mI (K:PySem.W.Frag)(a:Ad):Sp:=fun vs H Q _=>∃x cl,∃(p m:Nat) (cs:List Int),vs=[.ref x]/\Kl a H x cl p/\SqL K H cl (iv cs)/\cs[p]? =some (m:Int)/\
 ∀l H',Kl a H' x cl (p+1+m)->But x H H'->H l=none->H' l=some (.lst (iv ((cs.drop (p+1)).take m)))->Q (.ref l) H'
theorem iC:AL ["self","length"] ["self"] (AG EF):=⟨rfl,rfl,rfl,by decide +kernel,rfl,by decide +kernel,by decide +kernel⟩
theorem km (T:Tx K mg a):Fn P w K mg base CX0 2 a.DR ["self"] (mI K a):=by
 obtain⟨fd,F,hb⟩:=T.MT
 refine F.fn hb iC (fun vs H Q E h=>?_) (fun cdv A outer s H vs Q E hr h=>?_)
 ·obtain⟨x,cl,p,m,cs,rfl,_⟩:=h
  rfl
 ·obtain⟨x,cl,p,m,cs,rfl,R,hc,hm,k⟩:=h
  have nd:=iC.nd
  refine⟨_,AD (AN (i:=1) nd rfl (Or.inl rfl) (B4 (pv 0) T.B8 T.Bl (YU T) hr AU (AA AH AE)))
   (AF (AO (B4 (pv 0) T.B8 T.Bl (YU T) hr AU (AA (Aa AR (pv 1) AH (fun _ _=>rfl)) AE)))),?_⟩
  obtain⟨dx,hx⟩:=id R
  refine⟨_,rfl,x,dx,_,rfl,hx,rfl,x,cl,p,1,cs,rfl,R,hc,fun l1 H1 R1 b1 n1 e1=>?_⟩
  have hc1:=Mx hc R b1
  obtain⟨dx1,hx1⟩:=id R1
  have e1':((cs.drop p).take 1)[0]? =some (m:Int):=by
   rw[List.getElem?_take,if_pos (by decide),List.getElem?_drop]
   exact hm
  refine⟨_,rfl,x,dx1,_,rfl,hx1,rfl,Fc (K:=K) (n:=0) (v:=.int m) (AQ rfl) Ax (SqL.of e1) (SQ e1') _ ?_⟩
  refine⟨x,cl,p+1,m,cs,rfl,R1,hc1,fun l2 H2 R2 b2 n2 e2=>?_⟩
  refine k l2 H2 R2 (b1.trans b2) ?_ e2
  cases q:H l2 with
  |none=>rfl
  |some o=>
   by_cases e:l2=x
   ·rw[e,hx1]at n2;cases n2
   ·rw[b1 _ _ e q]at n2;cases n2
end
def Y3 (H:Hp)(l:Addr)(rows:List (List Int)):Prop:=∃ls:List Addr,H l=some (.lst (ls.map V.ref))/\Paired (fun x row=>H x=some (.lst (iv row))) ls rows
theorem Y3.same (h:Y3 H l rows)(s:AK H H'):Y3 H' l rows:=by
 obtain⟨ls,e,p⟩:=h
 exact⟨ls,s _ _ e,pim p fun x q h=>s _ _ h⟩
def inR (bs:List (Int×Int))(ns:List Int):Bool:=(bs.zip ns).all fun z=>Vbrgag.within z.2 z.1.1 z.1.2
section
variable {P:Program}{w:World}{K:PySem.W.Frag}{mg:Str->Option Value}{base:Heap}{a:Ad}
def mP (K:PySem.W.Frag)(a:Ad):Sp:=fun vs H Q E=>∃(r nl rl:Addr) (ps:List Addr) (bs:List (Int×Int)) (ns:List Int) (rows:List (List Int)),vs=[.ref r,.ref nl,.ref rl]/\NH K r (ps.map V.ref)/\Paired (fun p (b:Int×Int)=>NH K p [.int b.1,.int b.2]) ps bs/\
 H nl=some (.lst (iv ns))/\ns.length=bs.length/\Y3 H rl rows/\(¬(inR bs ns=true/\rows.all Vbrgag.isText=true)->BU a a.BI H E)/\(inR bs ns=true->rows.all Vbrgag.isText=true->∀H',AK H H'->Q .non H')
theorem iD:AL ["ranges","numbers","rows","bounds","number","row","byte"] ["ranges","numbers","rows"] (AG GB):=⟨rfl,rfl,rfl,by decide +kernel,rfl,by decide +kernel,by decide +kernel⟩
theorem jy (T:Tx K mg a):Fn P w K mg base (CXR P w) 1 a.FV ["ranges","numbers","rows"] (mP K a):=by
 obtain⟨fd,F,hb⟩:=T.QD
 refine F.fnR hb iD (fun vs H Q E h=>?_) (fun cdv A outer s H vs Q E hr h=>?_)
 ·obtain⟨r,nl,rl,ps,bs,ns,rows,rfl,_⟩:=h
  rfl
 ·obtain⟨r,nl,rl,ps,bs,ns,rows,rfl,hr1,hps,hn,hlen,⟨ls,hl,pls⟩,k1,k2⟩:=h
  have nd:=iD.nd
  have lps:ps.length=bs.length:=Paired.length hps
  have lls:ls.length=rows.length:=Paired.length pls
  refine⟨_,AD (BD VC rfl (eT rfl T.lr (AA (pv 0) (AA (pv 1) AE))) (Hw rfl (BL (AX (i:=3) nd rfl (Or.inl rfl)) (BL (AX (i:=4) nd rfl (Or.inl rfl)) FC)))
    (AF (BR (JM (Ew EK EK (Aa Ox (pv 3) AH (fun _ _=>rfl)) (pv 4) (Aa Ox (pv 3) AH (fun _ _=>rfl)))) (AF (BW CY rfl rfl T.A7 T.A8)) Al)))
   (AF (BD VC rfl (Cz (pv 2)) (AX (i:=5) nd rfl (Or.inl rfl))
    (AD (BR (Ag Ih (AZ Ai rfl T.EJ CU (AA (pv 5) AE)) AH (Am _)) (AF (BW CY rfl rfl T.A7 T.A8)) Al)
    (AF (BD VC rfl (Cz (pv 5)) (AX (i:=6) nd rfl (Or.inl rfl))
     (AF (BR (JM (Ew EK EK AH (pv 6) AH)) (AF (BW CY rfl rfl T.A7 T.A8)) Al))))))),?_⟩
  refine⟨_,rfl,_,rfl,r,nl,_,_,rfl,hr1.sq,SqL.of hn,bj (K:=K) (a:=r) (b:=nl) (xs:=ps.map V.ref) (ys:=iv ns)
   (fun i σ H'=>∃v3 v4:Option V,σ=[some (.ref r),some (.ref nl),some (.ref rl),v3,v4,none,none]/\AK H H'/\∀j b n,j<i->bs[j]? =some b->ns[j]? =some n->Vbrgag.within n b.1 b.2=true)
   ⟨none,none,rfl,AK.refl H,fun j b n h=>absurd h (by omega)⟩ (by rw[List.length_map,Ay];omega) (fun i σ H' _ ⟨_,_,_,s1,_⟩=>⟨hr1.sq,SqL.of (s1 _ _ hn)⟩) ?_ ?_⟩
  ·rintro i x y σ H' T1 hx hy ⟨v3,v4,rfl,s1,hall⟩ hT1
   obtain⟨p,hp,rfl⟩:=Ol hx
   obtain⟨n,hn',rfl⟩:=SS hy
   obtain⟨b,hb',kb⟩:=Cn hps hp
   refine⟨T1,_,rfl,SqT.of AB,rfl,_,_,rfl,_,_,rfl,rfl,?_⟩
   have s2:AK H (upd H' T1 (.tup [.ref p,.int n])):=s1.trans (.new hT1)
   generalize upd H' T1 (.tup [.ref p,.int n])=H2 at s2
   refine Fz (cC (K:=K) (n:=0) (v:=.int b.1) (AQ rfl) Ax kb.sq rfl) (AQ rfl) (cC (K:=K) (n:=1) (v:=.int b.2) (AQ rfl) Ax kb.sq rfl) (BY (fun h1=>?_) (fun h1=>?_))
   ·refine k1 (fun⟨z,_⟩=>?_) H2 s2
    unfold inR at z
    have hz:(bs.zip ns)[i]? =some (b,n):=by rw[List.getElem?_zip_eq_some];exact⟨hb',hn'⟩
    have:=List.all_eq_true.mp z _ (List.mem_of_getElem? hz)
    have this:(decide (b.1<=n)&&decide (n<=b.2))=true:=this
    rw[this]at h1
    cases h1
   ·have h1:(decide (b.1<=n)&&decide (n<=b.2))=true:=by simpa using h1
    refine⟨_,_,rfl,s2,fun j b' n' hj hb2 hn2=>?_⟩
    by_cases e:j=i
    ·subst e
     rw[hb']at hb2
     rw[hn']at hn2
     cases hb2
     cases hn2
     exact h1
    ·exact hall j b' n' (by omega) hb2 hn2
  ·rintro σ H1 ⟨v3,v4,rfl,s1,hall⟩
   rw[List.length_map,lps]at hall
   have okn:inR bs ns=true:=by
    unfold inR
    refine List.all_eq_true.mpr fun z hz=>?_
    obtain⟨j,hj⟩:=List.getElem?_of_mem hz
    obtain⟨q1,q2⟩:=List.getElem?_zip_eq_some.mp hj
    exact hall j z.1 z.2 (List.getElem?_eq_some_iff.mp q1).1 q1 q2
   refine⟨_,rfl,rl,rfl,⟨_,SqL.of (s1 _ _ hl)⟩,Dr (K:=K) (a:=rl) (xs:=ls.map V.ref) (fun i σ H'=>∃v5 v6:Option V,σ=[some (.ref r),some (.ref nl),some (.ref rl),v3,v4,v5,v6]/\AK H H'/\(rows.take i).all Vbrgag.isText=true)
    ⟨none,none,rfl,s1,rfl⟩ (fun i σ H' _ ⟨_,_,_,s2,_⟩=>SqL.of (s2 _ _ hl)) ?_ ?_⟩
   ·rintro i x σ H' hx ⟨v5,v6,rfl,s2,hall2⟩
    obtain⟨p,hp,rfl⟩:=Ol hx
    obtain⟨row,hrow,hpr⟩:=Cn pls hp
    have bad:Vbrgag.isText row=false->BU a a.BI H E:=fun z=>k1 fun⟨_,q⟩=>by
     have:=List.all_eq_true.mp q row (List.mem_of_getElem? hrow)
     rw[z]at this
     cases this
    have hp2:=s2 _ _ hpr
    refine sq_ (CZ (Mi (AQ rfl) (SqL.of hp2)) Ax (BY (fun h1=>?_) (fun h1=>?_)))
    ·have h1:(40:Int)<(((iv row).length:Nat):Int):=of_decide_eq_true h1
     rw[Ay]at h1
     exact bad (by unfold Vbrgag.isText;rw[decide_eq_false (by omega),Bool.false_and]) H' s2
    ·have h1:¬(40:Int)<(((iv row).length:Nat):Int):=fun z=>h1 (decide_eq_true z)
     rw[Ay]at h1
     refine nx_ ?_
     refine⟨_,rfl,p,rfl,⟨_,SqL.of hp2⟩,Dr (K:=K) (a:=p) (xs:=iv row) (fun j σ H2=>∃v6:Option V,σ=[some (.ref r),some (.ref nl),some (.ref rl),v3,v4,some (.ref p),v6]/\H2=H'/\(row.take j).all (fun c=>Vbrgag.within c 0 255)=true)
      ⟨v6,rfl,rfl,rfl⟩ (fun j σ H2 _ ⟨_,_,e,_⟩=>by rw[e];exact SqL.of hp2) ?_ ?_⟩
     ·rintro j y σ H2 hy ⟨v6',rfl,rfl,hall3⟩
      obtain⟨c,hc,rfl⟩:=SS hy
      refine Fz Ax (AQ rfl) Ax (BY (fun h2=>?_) (fun h2=>?_))
      ·refine bad ?_ H2 s2
       unfold Vbrgag.isText
       rw[Bool.and_eq_false_iff]
       right
       rw[List.all_eq_false]
       refine⟨c,List.mem_of_getElem? hc,fun z=>?_⟩
       have z:(decide (0<=c)&&decide (c<=255))=true:=z
       rw[z]at h2
       cases h2
      ·have h2:(decide (0<=c)&&decide (c<=255))=true:=by simpa using h2
       refine⟨_,rfl,rfl,?_⟩
       rw[List.take_add_one,hc,List.all_append,hall3]
       show(true&&((decide (0<=c)&&decide (c<=255))&&true))=true
       rw[h2]
       rfl
     ·rintro σ H2 ⟨v6',rfl,rfl,hall3⟩
      rw[Ay,List.take_length]at hall3
      refine⟨_,_,rfl,s2,?_⟩
      rw[List.take_add_one,hrow,List.all_append,hall2]
      show(true&&(Vbrgag.isText row&&true))=true
      unfold Vbrgag.isText
      rw[hall3,decide_eq_true (by omega)]
      rfl
   ·rintro σ H' ⟨v5,v6,rfl,s2,hall2⟩
    rw[List.length_map,lls,List.take_length]at hall2
    exact k2 okn hall2 H' s2
def jo (a:Ad):Sp:=fun vs H Q E=>∃g O d,∃c:Nat,vs=[.ref g,.int c]/\A2 a H g O d/\(7<c->d=none->BU a a.Ed H E)/\((c<=7\/d≠none)->Q .non H)
theorem jq:AL ["game","call"] ["game","call"] (AG IZ):=⟨rfl,rfl,rfl,by decide +kernel,rfl,by decide +kernel,by decide +kernel⟩
theorem iT (T:Tx K mg a):Fn P w K mg base (CXR P w) 1 a.Ic ["game","call"] (jo a):=by
 obtain⟨fd,F,hb⟩:=T.UZ
 obtain⟨tf,hf⟩:=T.Fi
 refine F.fnR hb jq (fun vs H Q E h=>?_) (fun cdv A outer s H vs Q E hr h=>?_)
 ·obtain⟨g,O,d,c,rfl,_⟩:=h
  rfl
 ·obtain⟨g,O,d,c,rfl,G,k1,k2⟩:=h
  refine⟨_,AF (BR (PW.pt (W2 (Ag Ih (pv 1) (A6 (v:=.int 7) rfl hf ⟨tf,rfl⟩) (Am _)) (TX (aQ (ia (AJ (pv 0) rfl)))))) (AF (BW CY rfl rfl T.EA T.DH)) Al),?_⟩
  have gc:Gives (Ae 1) ([some (.ref g),some (.int c)]:L2.St) H (.int (c:Int)):=AQ rfl
  refine CZ gc Ax (BY (fun h1=>?_) (fun h1=>?_))
  ·have h1:(7:Int)<c:=of_decide_eq_true h1
   cases d with
   |none=>
    obtain⟨⟨dg,hg⟩,_⟩:=G
    exact⟨_,rfl,g,a.EI,dg,_,_,rfl,hg,T.Fb,T.BG,rfl,_,rfl,LB (k1 (by omega) rfl H (AK.refl H))⟩
   |some D=>
    obtain⟨f,l,td,x0,la0,lw0,x1,la1,lw1,c0,c1,kvs,⟨dg,hg⟩,_,_⟩:=G
    exact⟨_,rfl,g,a.EI,dg,_,_,rfl,hg,T.Fb,T.BG,rfl,_,rfl,N6 (k2 (.inr (by simp)))⟩
  ·have h1:¬(7:Int)<c:=fun z=>h1 (decide_eq_true z)
   exact N6 (k2 (.inl (by omega)))
end
theorem len0 (h:l.length=0):l=[]:=List.length_eq_zero_iff.mp h
theorem RG (h:l.length=1):∃x,l=[x]:=List.length_eq_one_iff.mp h
theorem ZZ (h:l.length=2):∃x y,l=[x,y]:=by
 match l,h with
 |[x,y],_=>exact⟨x,y,rfl⟩
theorem m9 (h:l.length=3):∃x y z,l=[x,y,z]:=by
 match l,h with
 |[x,y,z],_=>exact⟨x,y,z,rfl⟩
theorem lR (h:l.length=4):∃x y z u,l=[x,y,z,u]:=by
 match l,h with
 |[x,y,z,u],_=>exact⟨x,y,z,u,rfl⟩
theorem nA (h:l.length=5):∃x y z u v,l=[x,y,z,u,v]:=by
 match l,h with
 |[x,y,z,u,v],_=>exact⟨x,y,z,u,v,rfl⟩
inductive Shape:Nat->List Int->List (List Int)->Vbrgag.Call->Prop
 |c0 (t):Shape 0 [] [t] (.read t)
 |c1 (t):Shape 1 [] [t] (.text t)
 |c2 (t):Shape 2 [] [t] (.dist t)
 |c3 (v t):Shape 3 [v] [t] (.chance v t)
 |c4 (t u):Shape 4 [] [t,u] (.beats t u)
 |c5 (t):Shape 5 [] [t] (.mean t)
 |c6 (z k m t):Shape 6 [z,k,m] [t] (.roll z k m t)
 |c7 (x y):Shape 7 [x,y] [] (.open_ x y)
 |c8 (s n t u):Shape 8 [s,n] [t,u] (.hurt s n t u)
 |c9 (s t):Shape 9 [s] [t] (.heal s t)
 |c10 (n w x y):Shape 10 [n,w,x,y] [] (.odds n w x y)
 |c11 (n w x y):Shape 11 [n,w,x,y] [] (.best n w x y)
 |c12 (s):Shape 12 [s] [] (.acts s)
 |c13 (s i n x y):Shape 13 [s,i,n,x,y] [] (.worth s i n x y)
theorem bF (hc:c<14)(hn:ns.length=(As c).length)(hr:rows.length=rowsOf c):∃call,Shape c ns rows call:=by
 match c,hc,hn,hr with
 |0,_,hn,hr=>obtain rfl:=len0 hn;obtain⟨t,rfl⟩:=RG hr;exact⟨_,.c0 t⟩
 |1,_,hn,hr=>obtain rfl:=len0 hn;obtain⟨t,rfl⟩:=RG hr;exact⟨_,.c1 t⟩
 |2,_,hn,hr=>obtain rfl:=len0 hn;obtain⟨t,rfl⟩:=RG hr;exact⟨_,.c2 t⟩
 |3,_,hn,hr=>obtain⟨v,rfl⟩:=RG hn;obtain⟨t,rfl⟩:=RG hr;exact⟨_,.c3 v t⟩
 |4,_,hn,hr=>obtain rfl:=len0 hn;obtain⟨t,u,rfl⟩:=ZZ hr;exact⟨_,.c4 t u⟩
 |5,_,hn,hr=>obtain rfl:=len0 hn;obtain⟨t,rfl⟩:=RG hr;exact⟨_,.c5 t⟩
 |6,_,hn,hr=>obtain⟨z,k,m,rfl⟩:=m9 hn;obtain⟨t,rfl⟩:=RG hr;exact⟨_,.c6 z k m t⟩
 |7,_,hn,hr=>obtain⟨x,y,rfl⟩:=ZZ hn;obtain rfl:=len0 hr;exact⟨_,.c7 x y⟩
 |8,_,hn,hr=>obtain⟨x,y,rfl⟩:=ZZ hn;obtain⟨t,u,rfl⟩:=ZZ hr;exact⟨_,.c8 x y t u⟩
 |9,_,hn,hr=>obtain⟨x,rfl⟩:=RG hn;obtain⟨t,rfl⟩:=RG hr;exact⟨_,.c9 x t⟩
 |10,_,hn,hr=>obtain⟨n,w,x,y,rfl⟩:=lR hn;obtain rfl:=len0 hr;exact⟨_,.c10 n w x y⟩
 |11,_,hn,hr=>obtain⟨n,w,x,y,rfl⟩:=lR hn;obtain rfl:=len0 hr;exact⟨_,.c11 n w x y⟩
 |12,_,hn,hr=>obtain⟨x,rfl⟩:=RG hn;obtain rfl:=len0 hr;exact⟨_,.c12 x⟩
 |13,_,hn,hr=>obtain⟨s,i,n,x,y,rfl⟩:=nA hn;obtain rfl:=len0 hr;exact⟨_,.c13 s i n x y⟩
 |c+14,h,_,_=>omega
theorem Shape.decode {c:Nat}{ns:List Int}{rows:List (List Int)}{call:Vbrgag.Call}(h:Shape c ns rows call):Vbrgag.decode (((c:Int)::ns)::rows)=some call:=by
 cases h <;> rfl
theorem Shape.range {c:Nat}{ns:List Int}{rows:List (List Int)}{call:Vbrgag.Call}(h:Shape c ns rows call):Vbrgag.inRange call=(inR (As c) ns&&rows.all Vbrgag.isText):=by
 cases h <;> simp[Vbrgag.inRange,inR,As,Vbrgag.isSide,Vbrgag.HP,Vbrgag.TURNS,Bool.and_assoc]
def Bs:List (List Int)->Except Nat (List (List Vbrgag.Part))
 |[]=>.ok []
 |t::r=>match Vbrgag.read t with
  | .error k=>.error k
  | .ok ps=>match Bs r with
   | .error k=>.error k
   | .ok pss=>.ok (ps::pss)
def codeOf (k:Nat):Int:=if k=0 then -3 else -4
theorem TC {d:Option Duel}{call:Vbrgag.Call}(h:Vbrgag.inRange call=false):Vbrgag.step ⟨d⟩ call=(⟨d⟩,[-1]):=by
 unfold Vbrgag.step
 rw[if_pos h]
theorem Shape.Wx {c:Nat}{ns:List Int}{rows:List (List Int)}{call:Vbrgag.Call}(h:Shape c ns rows call)(hr:Vbrgag.inRange call=true)(hc:7<c):Vbrgag.step ⟨none⟩ call=(⟨none⟩,[-2]):=by
 unfold Vbrgag.step
 rw[if_neg (by rw[hr];decide)]
 cases h <;> first|rfl|(exact absurd hc (by decide))
theorem KH (h:Bs [t]=.error k):Vbrgag.read t=.error k:=by
 unfold Bs at h
 cases q:Vbrgag.read t with
 |error j=>rw[q]at h;cases h;rfl
 |ok ps=>rw[q]at h;cases h
theorem CQ (h:Bs [t]=.ok pss):∃ps,Vbrgag.read t=.ok ps/\pss=[ps]:=by
 unfold Bs at h
 cases q:Vbrgag.read t with
 |error j=>rw[q]at h;cases h
 |ok ps=>rw[q]at h;cases h;exact⟨ps,rfl,rfl⟩
theorem cY (h:Bs [t,u]=.error k):Vbrgag.read t=.error k\/∃ps,Vbrgag.read t=.ok ps/\Vbrgag.read u=.error k:=by
 unfold Bs at h
 cases q:Vbrgag.read t with
 |error j=>rw[q]at h;cases h;exact .inl rfl
 |ok ps=>
  rw[q]at h
  cases e:Bs [u]with
  |error j=>rw[e]at h;cases h;exact .inr ⟨ps,rfl,KH e⟩
  |ok pss=>rw[e]at h;cases h
theorem KZ (h:Bs [t,u]=.ok pss):∃ps qs,Vbrgag.read t=.ok ps/\Vbrgag.read u=.ok qs/\pss=[ps,qs]:=by
 unfold Bs at h
 cases q:Vbrgag.read t with
 |error j=>rw[q]at h;cases h
 |ok ps=>
  rw[q]at h
  cases e:Bs [u]with
  |error j=>rw[e]at h;cases h
  |ok pss'=>
   rw[e]at h
   cases h
   obtain⟨qs,e1,rfl⟩:=CQ e
   exact⟨ps,qs,rfl,e1,rfl⟩
theorem Shape.err {c:Nat}{ns:List Int}{rows:List (List Int)}{call:Vbrgag.Call}{d:Option Duel}{k:Nat}(h:Shape c ns rows call)(hr:Vbrgag.inRange call=true)(hd:c<=7\/d≠none)(e:Bs rows=.error k):Vbrgag.step ⟨d⟩ call=(⟨d⟩,[codeOf k]):=by
 unfold Vbrgag.step
 rw[if_neg (by rw[hr];decide)]
 cases h with
 |c0 t=>cases k <;> simp[KH e,codeOf]
 |c1 t=>cases k <;> simp[KH e,codeOf,Vbrgag.onText]
 |c2 t=>cases k <;> simp[KH e,codeOf,Vbrgag.onText]
 |c3 v t=>cases k <;> simp[KH e,codeOf,Vbrgag.onText]
 |c4 t u=>
  rcases cY e with q|⟨ps,q1,q2⟩
  ·cases k <;> simp[q,codeOf,Vbrgag.onText]
  ·cases k <;> simp[q1,q2,codeOf,Vbrgag.onText]
 |c5 t=>cases k <;> simp[KH e,codeOf,Vbrgag.onText]
 |c6 z kk m t=>cases k <;> simp[KH e,codeOf,Vbrgag.onText]
 |c8 s n t u=>
  cases d with
  |none=>exact absurd rfl (hd.resolve_left (by decide))
  |some D=>
   rcases cY e with q|⟨ps,q1,q2⟩
   ·cases k <;> simp[q,codeOf,Vbrgag.onDuel]
   ·cases k <;> simp[q1,q2,codeOf,Vbrgag.onDuel]
 |c9 s t=>
  cases d with
  |none=>exact absurd rfl (hd.resolve_left (by decide))
  |some D=>cases k <;> simp[KH e,codeOf,Vbrgag.onDuel]
 |c7 x y=>cases e
 |c10 n w x y=>cases e
 |c11 n w x y=>cases e
 |c12 s=>cases e
 |c13 s i n x y=>cases e
theorem Shape.dice {c:Nat}{ns:List Int}{rows:List (List Int)}{call:Vbrgag.Call}{d:Option Duel}{pss:List (List Vbrgag.Part)}(h:Shape c ns rows call)(hr:Vbrgag.inRange call=true)(hc:c<7)(e:Bs rows=.ok pss):
  ∃ans,OF c ns pss=some ans/\Vbrgag.step ⟨d⟩ call=(⟨d⟩,0::ans):=by
 unfold Vbrgag.step
 rw[if_neg (by rw[hr];decide)]
 cases h with
 |c0 t=>obtain⟨ps,q,rfl⟩:=CQ e;exact⟨_,rfl,by simp[q]⟩
 |c1 t=>obtain⟨ps,q,rfl⟩:=CQ e;exact⟨_,rfl,by simp[q,Vbrgag.onText]⟩
 |c2 t=>obtain⟨ps,q,rfl⟩:=CQ e;exact⟨_,rfl,by simp[q,Vbrgag.onText]⟩
 |c3 v t=>obtain⟨ps,q,rfl⟩:=CQ e;exact⟨_,rfl,by simp[q,Vbrgag.onText]⟩
 |c4 t u=>obtain⟨ps,qs,q1,q2,rfl⟩:=KZ e;exact⟨_,rfl,by simp[q1,q2,Vbrgag.onText,Dm.Cw]⟩
 |c5 t=>obtain⟨ps,q,rfl⟩:=CQ e;exact⟨_,rfl,by simp[q,Vbrgag.onText]⟩
 |c6 z k m t=>
  obtain⟨ps,q,rfl⟩:=CQ e
  simp only[Vbrgag.inRange,Vbrgag.within,Bool.and_eq_true,decide_eq_true_eq]at hr
  refine⟨_,if_pos ⟨hr.1.1,hr.2.1.1,hr.2.2.1.2,by omega⟩,by simp[q,Vbrgag.onText]⟩
 |c7 x y=>exact absurd hc (by decide)
 |c8 s n t u=>exact absurd hc (by decide)
 |c9 s t=>exact absurd hc (by decide)
 |c10 n w x y=>exact absurd hc (by decide)
 |c11 n w x y=>exact absurd hc (by decide)
 |c12 s=>exact absurd hc (by decide)
 |c13 s i n x y=>exact absurd hc (by decide)
def YA (a:Ad)(code:Int):Addr:=if code= -1 then a.BI else if code= -2 then a.Ed else if code= -3 then a.Br else if code= -4 then a.Ah else if code= -5 then a.Au else if code= -6 then a.BV else if code= -7 then a.DS else if code= -8 then a.Bg else a.BC
def Ww (a:Ad)(H:Hp)(g:Addr)(O:List Addr)(r:Vbrgag.State×List Int)(Q:VK)(E:XK):Prop:=(∀code,r.2=[code]->code<0->BU a (YA a code) H E)/\∀ans,r.2=0::ans->Gv a H g O r.1.duel ans Q
theorem Ww.JO (h:Ww a H g O r Q E)(s:AK H H1):Ww a H1 g O r Q E:=⟨fun code e n=>(h.1 code e n).same s,fun ans e=>(h.2 ans e).JO s⟩
theorem IG (h:Vbrgag.isSide s=true):s=Aw (s == 0):=by
 simp only[Vbrgag.isSide,Vbrgag.within,Bool.and_eq_true,decide_eq_true_eq]at h
 rcases(show s=0\/s=1 by omega)with rfl|rfl <;> rfl
theorem M7 (h:3<=(D.side (s == 0)).acts.length):Vbrgag.addAct D s act=(D,[-5]):=by
 unfold Vbrgag.addAct
 simp only[h,if_true]
theorem Pg (hs:Vbrgag.isSide s=true)(h:(D.side (s == 0)).acts.length<3):Vbrgag.addAct D s act=(Pb D (s == 0) act,[0,(((D.side (s == 0)).acts.length+1:Nat):Int)]):=by
 have hs':=IG hs
 unfold Vbrgag.addAct Pb
 simp only[show ¬3<=(D.side (s == 0)).acts.length by omega,if_false]
 by_cases e:s=0
 ·subst e
  simp[Vbrgag.Duel.side]
 ·have:(s == 0)=false:=by simpa using e
  simp[this,e,Vbrgag.Duel.side]
theorem Shape.duel {c:Nat}{ns:List Int}{rows:List (List Int)}{call:Vbrgag.Call}{D:Duel}(h:Shape c ns rows call)(hr:Vbrgag.inRange call=true)(hc:7<c):Vbrgag.step ⟨some D⟩ call=(⟨some (Vbrgag.onDuel D call).1⟩,(Vbrgag.onDuel D call).2):=by
 unfold Vbrgag.step
 rw[if_neg (by rw[hr];decide)]
 cases h <;> first|rfl|(exact absurd hc (by decide))
theorem M6 {D:Duel}{x y:Nat}(h:D.first.hp<x\/D.second.hp<y):Vbrgag.inDuel D (x:Int) (y:Int)=false:=by
 unfold Vbrgag.inDuel
 rw[Bool.and_eq_false_iff,decide_eq_false_iff_not,decide_eq_false_iff_not]
 omega
theorem Cr {D:Duel}{x y:Nat}(h1:x<=D.first.hp)(h2:y<=D.second.hp):Vbrgag.inDuel D (x:Int) (y:Int)=true:=by
 unfold Vbrgag.inDuel
 rw[Bool.and_eq_true,decide_eq_true_eq,decide_eq_true_eq]
 omega
theorem Pf {D:Duel}(h:D.first.acts=[]\/D.second.acts=[]):Vbrgag.ready D=false:=by
 unfold Vbrgag.ready
 rcases h with h|h <;> rw[h] <;> simp
theorem Hi {D:Duel}(h1:D.first.acts≠[])(h2:D.second.acts≠[]):Vbrgag.ready D=true:=by
 unfold Vbrgag.ready
 cases e1:D.first.acts with
 |nil=>exact absurd e1 h1
 |cons _ _=>cases e2:D.second.acts with
  |nil=>exact absurd e2 h2
  |cons _ _=>rfl
section
variable {a:Ad}{H:Hp}{g nl tl:Addr}{O:List Addr}{Q:VK}{E:XK}
theorem HE {x:Int}(h:0<=x):∃n:Nat,x=(n:Int):=⟨x.toNat,by omega⟩
theorem NR {r:Vbrgag.State×List Int}{d:Option Duel}{ans:List Int}(o:Ww a H g O r Q E)(h:r=(⟨d⟩,0::ans)):Gv a H g O d ans Q:=by
 subst h
 exact o.2 ans rfl
theorem HY {r:Vbrgag.State×List Int}{d:Vbrgag.State}{code:Int}(o:Ww a H g O r Q E)(h:r=(d,[code]))(n:code<0):BU a (YA a code) H E:=by
 subst h
 exact o.1 code rfl n
theorem Shape.aM {c:Nat}{ns:List Int}{rows:List (List Int)}{call:Vbrgag.Call}{d:Option Duel}{pss:List (List Vbrgag.Part)}(h:Shape c ns rows call)(hr:Vbrgag.inRange call=true)(hc:7<=c)(hd:c<=7\/d≠none)(e:Bs rows=.ok pss)
  (G:A2 a H g O d)(hn:H nl=some (.lst (iv ns)))(ht:Eh a H tl pss)(o:Ww a H g O (Vbrgag.step ⟨d⟩ call) Q E):fSp a c [.ref g,.ref nl,.ref tl] H Q E:=by
 by_cases h7:c=7
 ·subst h7
  cases h with
  |c7 x y=>
   have hr':=hr
   simp only[Vbrgag.inRange,Vbrgag.within,Bool.and_eq_true,decide_eq_true_eq]at hr'
   have hHP:Vbrgag.HP=15:=rfl
   rw[hHP]at hr'
   obtain⟨x,rfl⟩:=HE (x:=x) (by omega)
   obtain⟨y,rfl⟩:=HE (x:=y) (by omega)
   refine⟨g,nl,tl,O,d,x,y,rfl,G,hn,by omega,by omega,NR o ?_⟩
   unfold Vbrgag.step
   rw[if_neg (by rw[hr];decide)]
   rfl
 ·have h8:7<c:=by omega
  obtain⟨D,rfl⟩:∃D,d=some D:=by
   cases d with
   |none=>exact absurd rfl (hd.resolve_left (by omega))
   |some D=>exact⟨D,rfl⟩
  rw[h.duel hr h8]at o
  have hr':=hr
  cases h with
  |c0|c1|c2|c3|c4|c5|c6|c7=>exact absurd h8 (by decide)
  |c8 s n t u=>
   obtain⟨ps,qs,q1,q2,rfl⟩:=KZ e
   simp only[Vbrgag.inRange,Bool.and_eq_true]at hr'
   have es:=IG hr'.1
   have eo:Vbrgag.onDuel D (.hurt s n t u)=Vbrgag.addAct D s (Vbrgag.actOf false (Vbrgag.atLeast (Vbrgag.distOf ps) n) (Vbrgag.distOf ps).total (Vbrgag.distOf qs)):=by simp[Vbrgag.onDuel,q1,q2]
   rw[eo]at o
   refine⟨g,nl,tl,O,D,s == 0,n,ps,qs,rfl,G,by rw[<-es];exact hn,ht,fun hh=>?_,fun hh=>?_⟩
   ·rw[M7 hh]at o
    exact HY o rfl (by decide)
   ·rw[Pg hr'.1 hh]at o
    exact NR o rfl
  |c9 s t=>
   obtain⟨ps,q1,rfl⟩:=CQ e
   simp only[Vbrgag.inRange,Bool.and_eq_true]at hr'
   have es:=IG hr'.1
   have eo:Vbrgag.onDuel D (.heal s t)=Vbrgag.addAct D s (Vbrgag.actOf true 1 1 (Vbrgag.distOf ps)):=by simp[Vbrgag.onDuel,q1]
   rw[eo]at o
   refine⟨g,nl,tl,O,D,s == 0,ps,rfl,G,by rw[<-es];exact hn,ht,fun hh=>?_,fun hh=>?_⟩
   ·rw[M7 hh]at o
    exact HY o rfl (by decide)
   ·rw[Pg hr'.1 hh]at o
    exact NR o rfl
  |c10 n w x y=>
   simp only[Vbrgag.inRange,Vbrgag.within,Bool.and_eq_true,decide_eq_true_eq]at hr'
   have hHP:Vbrgag.HP=15:=rfl
   have hTN:Vbrgag.TURNS=8:=rfl
   rw[hHP,hTN]at hr'
   have es:=IG hr'.2.1
   obtain⟨n,rfl⟩:=HE (x:=n) (by omega)
   obtain⟨x,rfl⟩:=HE (x:=x) (by omega)
   obtain⟨y,rfl⟩:=HE (x:=y) (by omega)
   refine⟨g,nl,tl,O,D,n,w == 0,x,y,rfl,G,by rw[<-es];exact hn,by omega,⟨fun hh=>?_,fun h1 h2 hh=>?_⟩,fun⟨h1,h2,h3,h4⟩=>?_⟩
   ·exact HY (code:= -6) o (by simp[Vbrgag.onDuel,M6 hh];rfl) (by decide)
   ·exact HY (code:= -7) o (by simp[Vbrgag.onDuel,Cr h1 h2,Pf hh];rfl) (by decide)
   ·exact NR o (by simp[Vbrgag.onDuel,Cr h1 h2,Hi h3 h4])
  |c11 n w x y=>
   simp only[Vbrgag.inRange,Vbrgag.within,Bool.and_eq_true,decide_eq_true_eq]at hr'
   have hHP:Vbrgag.HP=15:=rfl
   have hTN:Vbrgag.TURNS=8:=rfl
   rw[hHP,hTN]at hr'
   have es:=IG hr'.2.1
   obtain⟨n,rfl⟩:=HE (x:=n) (by omega)
   obtain⟨x,rfl⟩:=HE (x:=x) (by omega)
   obtain⟨y,rfl⟩:=HE (x:=y) (by omega)
   refine⟨g,nl,tl,O,D,n,w == 0,x,y,rfl,G,by rw[<-es];exact hn,by omega,⟨fun hh=>?_,fun h1 h2 hh=>?_⟩,fun⟨h1,h2,h3,h4⟩=>?_⟩
   ·exact HY (code:= -6) o (by simp[Vbrgag.onDuel,M6 hh];rfl) (by decide)
   ·exact HY (code:= -7) o (by simp[Vbrgag.onDuel,Cr h1 h2,Pf hh];rfl) (by decide)
   ·refine NR o ?_
    unfold OS
    simp only[Vbrgag.onDuel,Cr h1 h2,Hi h3 h4,Int.toNat_natCast]
    cases Vbrgag.Duel.best D n (w == 0) x y <;> rfl
  |c12 s=>
   simp only[Vbrgag.inRange]at hr'
   have es:=IG hr'
   exact⟨g,nl,tl,O,D,s == 0,rfl,G,by rw[<-es];exact hn,NR o rfl⟩
  |c13 s i n x y=>
   simp only[Vbrgag.inRange,Vbrgag.within,Bool.and_eq_true,decide_eq_true_eq]at hr'
   have hHP:Vbrgag.HP=15:=rfl
   have hTN:Vbrgag.TURNS=8:=rfl
   rw[hHP,hTN]at hr'
   have es:=IG hr'.1
   obtain⟨pl,rfl⟩:∃pl:Nat,i=(pl:Int)+1:=⟨(i - 1).toNat,by omega⟩
   obtain⟨n,rfl⟩:∃m:Nat,n=(m:Int)+1:=⟨(n - 1).toNat,by omega⟩
   obtain⟨x,rfl⟩:=HE (x:=x) (by omega)
   obtain⟨y,rfl⟩:=HE (x:=y) (by omega)
   have ep:((pl:Int)+1 - 1).toNat=pl:=by omega
   have en:((n:Int)+1 - 1).toNat=n:=by omega
   refine⟨g,nl,tl,O,D,s == 0,pl,n,x,y,rfl,G,by rw[<-es];exact hn,by omega,⟨fun hh=>?_,fun h1 h2 hh=>?_⟩,fun⟨h1,h2,h3,h4⟩ hp=>?_,fun⟨h1,h2,h3,h4⟩ hp hh=>?_,fun act ⟨h1,h2,h3,h4⟩ ha hx hy=>?_⟩
   ·exact HY (code:= -6) o (by simp[Vbrgag.onDuel,M6 hh];rfl) (by decide)
   ·exact HY (code:= -7) o (by simp[Vbrgag.onDuel,Cr h1 h2,Pf hh];rfl) (by decide)
   ·refine HY (code:= -8) (d:=⟨some D⟩) o ?_ (by decide)
    simp only[Vbrgag.onDuel,Cr h1 h2,Hi h3 h4,ep,List.getElem?_eq_none hp]
    rfl
   ·refine HY (code:= -9) (d:=⟨some D⟩) o ?_ (by decide)
    have he:(Vbrgag.ended x y).isSome=true:=by
     unfold Vbrgag.ended
     rcases hh with z|z
     ·rw[if_pos z];rfl
     ·by_cases zx:x=0
      ·rw[if_pos zx];rfl
      ·rw[if_neg zx,if_pos z];rfl
    simp only[Vbrgag.onDuel,Cr h1 h2,Hi h3 h4,ep,List.getElem?_eq_getElem hp,Int.toNat_natCast,he]
    rfl
   ·refine NR o ?_
    have he:(Vbrgag.ended x y).isSome=false:=by
     unfold Vbrgag.ended
     rw[if_neg (by omega),if_neg (by omega)]
     rfl
    simp only[Vbrgag.onDuel,Cr h1 h2,Hi h3 h4,ep,en,ha,Int.toNat_natCast,he]
    rfl
end
def VH (pss:List (List Vbrgag.Part)):Except Nat (List (List Vbrgag.Part))->Except Nat (List (List Vbrgag.Part))
 | .error k=>.error k
 | .ok r=>.ok (pss++r)
theorem NQ (h:Vbrgag.read t=.error k):Bs (t::r)=.error k:=by
 unfold Bs
 rw[h]
theorem Ov (h:Vbrgag.read t=.ok ps):Bs (t::r)=VH [ps] (Bs r):=by
 conv=>lhs;unfold Bs
 rw[h]
 cases Bs r <;> rfl
theorem Y2 (p q:List (List Vbrgag.Part))(r:Except Nat (List (List Vbrgag.Part))):VH p (VH q r)=VH (p++q) r:=by
 cases r with
 |error k=>rfl
 |ok r=>show Except.ok (p++(q++r))=Except.ok (p++q++r);rw[List.append_assoc]
section
variable {P:Program}{w:World}{K:PySem.W.Frag}{mg:Str->Option Value}{base:Heap}{a:Ad}
def iR (a:Ad):Sp:=fun vs H Q E=>∃(g nl rl:Addr) (O:List Addr) (d:Option Duel) (c:Nat) (ns:List Int) (rows:List (List Int)) (call:Vbrgag.Call),vs=[.ref g,.int c,.ref nl,.ref rl]/\A2 a H g O d/\H nl=some (.lst (iv ns))/\Y3 H rl rows/\Shape c ns rows call/\c<14/\ns.length=(As c).length/\
 rows.length<=2/\Ww a H g O (Vbrgag.step ⟨d⟩ call) Q E
theorem aL:AL ["game","call","numbers","rows","texts","row"] ["game","call","numbers","rows"] (AG Ca):=⟨rfl,rfl,rfl,by decide +kernel,rfl,by decide +kernel,by decide +kernel⟩
theorem cz:GI ["game","call","numbers","rows","texts","row"] (AG Ca) (JN [(".0",.local),("row",.local),("read_text",.globalImplicit)]) [("row",5)]:=⟨rfl,by decide +kernel,by decide +kernel,by decide +kernel,by decide +kernel⟩
theorem iS (T:Tx K mg a):Fn P w K mg base (CXR P w) 10 a.DJ ["game","call","numbers","rows"] (iR a):=by
 obtain⟨fd,F,hb⟩:=T.Lp
 obtain⟨tf,hf⟩:=T.Fi
 obtain⟨ft,ktab,forms⟩:=T.Rx
 refine F.fnR hb aL (fun vs H Q E h=>?_) (fun cdv A outer s H vs Q E hr h=>?_)
 ·obtain⟨g,nl,rl,O,d,c,ns,rows,call,rfl,_⟩:=h
  rfl
 ·obtain⟨g,nl,rl,O,d,c,ns,rows,call,rfl,G,hn,hrows,sh,hc,hlen,hr2,o⟩:=h
  have nd:=aL.nd
  have hs:sizeLine=16777216:=sizeLine_eq
  refine⟨_,AD (Az (Ac (jy T) hr rfl T.Ow (C5 (E':=E) fun _ _ _ h=>h) (AA (Aa Ox (OV rfl T.X7 ktab (pv 1) (fun _ _=>rfl)) AH (fun _ _=>rfl)) (AA (pv 2) (AA (pv 3) AE)))))
   (AD (Az (Ac (iT T) hr rfl T.TB (C5 (E':=E) fun _ _ _ h=>h) (AA (pv 0) (AA (pv 1) AE))))
   (AD (Y4 (i:=4) (E':=E) rfl (fun _=>rfl) (fun _ _ _ h=>h) rfl nd rfl rfl (X8 rfl rfl rfl rfl) (Cz (pv 3)) cz (fun s H C cl fp=>AX (i:=5) nd rfl (Or.inl rfl)) (fun s H C cl fp=>GJ) (fun s H C cl fp EX hx=>Ac (aH T) hr rfl T.VI hx (AA (pv 5) AE)))
   (AD (BR (Ag X9 (pv 1) (A6 (v:=.int 7) rfl hf ⟨tf,rfl⟩) (Am _)) (AF (AO (Ac (jz T) hr rfl T.LG Bv (AA (pv 1) (AA (pv 2) (AA (pv 4) AE)))))) Al)
   (AF (AO (Ac (j0 T) hr rfl T.Kh (C5 (E':=E) fun _ _ _ h=>h) (AA (pv 0) (AA (pv 1) (AA (pv 2) (AA (pv 4) AE)))))))))),?_⟩
  obtain⟨t,r,ps,e1,k1,k2,k3⟩:=forms c hc
  have rng:=sh.range
  refine⟨_,rfl,c,_,.ref t,rfl,e1,rfl,t,_,0,_,rfl,rfl,k1.sq,BO (j:=0) rfl,_,rfl,_,rfl,?_⟩
  refine⟨r,nl,rl,ps,As c,ns,rows,rfl,k2,k3,hn,hlen,hrows,fun hno=>?_,fun y1 y2 H1 s1=>?_⟩
  ·have:Vbrgag.inRange call=false:=by
    rw[rng]
    cases q1:inR (As c) ns with
    |false=>rfl
    |true=>cases q2:rows.all Vbrgag.isText with
     |false=>rfl
     |true=>exact absurd ⟨q1,q2⟩ hno
   exact HY (code:= -1) o (TC this) (by decide)
  have hin:Vbrgag.inRange call=true:=by rw[rng,y1,y2];rfl
  have o1:=o.JO s1
  have G1:=G.same s1
  refine⟨_,rfl,_,rfl,g,O,d,c,rfl,G1,fun h7 hd0=>?_,fun hd=>?_⟩
  ·subst hd0
   exact HY (code:= -2) o1 (sh.Wx hin h7) (by decide)
  obtain⟨ls,el,pls⟩:=hrows.same s1
  have lls:ls.length=rows.length:=Paired.length pls
  refine⟨_,rfl,rl,rfl,⟨_,SqL.of el⟩,fun D hD=>?_⟩
  refine OW (K:=K) (a:=rl) (xs:=ls.map V.ref) (fun i H'=>AK H1 H'/\∃(xs:List Addr) (pss:List (List Vbrgag.Part)),H' D=some (.lst (xs.map V.ref))/\Paired (fun x ps=>x≠D/\Bb a H' x ps/\ps.length<=3/\∀p∈ps,Dm.Fits p) xs pss/\pss.length=i/\Bs rows=VH pss (Bs (rows.drop i)))
   ⟨.new hD,[],[],AB,.nil,rfl,by rw[List.drop_zero];cases Bs rows <;> rfl⟩ (fun i H' _ ⟨s2,_⟩=>SqL.of (s2 _ _ el)) ?_ ?_
  ·rintro i v H' hi ⟨s2,xs,pss,eD,pp,hl,erd⟩
   obtain⟨z,hz,rfl⟩:=Ol hi
   obtain⟨row,hrow,hzr⟩:=Cn pls hz
   have hil:=(List.getElem?_eq_some_iff.mp hrow)
   have edr:rows.drop i=row::rows.drop (i+1):=by rw[<-hil.2];exact List.drop_eq_getElem_cons hil.1
   have hlr:row.length<=1000:=by
    have:=List.all_eq_true.mp y2 row (List.mem_of_getElem? hrow)
    unfold Vbrgag.isText at this
    rw[Bool.and_eq_true,decide_eq_true_eq]at this
    omega
   have bad:∀k,Vbrgag.read row=.error k->BU a (YA a (codeOf k)) H' E:=fun k ek=>by
    have:Bs rows=.error k:=by rw[erd,edr,NQ ek];rfl
    exact(HY o1 (sh.err hin hd this) (by unfold codeOf;split <;> decide)).same s2
   refine⟨rfl,yes ?_⟩
   refine⟨_,rfl,z,row,rfl,s2 _ _ hzr,hlr,bad 0,bad 1,fun ps eps l H2 s3 nl2 hps=>?_⟩
   refine⟨_,s3 _ _ eD,by rw[List.length_map,Paired.length pp,hl];have:=hil.1;omega,?_⟩
   have hD1:H1 D=none:=hD
   have ok3:=Dm.YB eps
   have ppl:∀{o:HO}{x:Addr}{qs:List Vbrgag.Part},Bb a H2 x qs->x≠D->Bb a (upd H2 D o) x qs:=fun{o x qs} hq hx=>by
    obtain⟨as,ea,pa⟩:=hq
    exact⟨as,by rw[AI hx];exact ea,pim pa fun y q hy=>hy.put (s3 _ _ eD)⟩
   have nlD:l≠D:=Ne.symm (AM eD nl2)
   refine⟨fun b o e=>?_,xs++[l],pss++[ps],?_,GK ⟨nlD,ppl hps nlD,ok3⟩ (pim pp fun x q h=>⟨h.1,ppl (h.2.1.same s3) h.1,h.2.2⟩),by rw[List.length_append,hl];rfl,?_⟩
   ·rw[AI (AM e hD1)]
    exact s3 _ _ (s2 _ _ e)
   ·rw[AB,List.map_append]
    rfl
   ·rw[erd,edr,Ov eps,Y2]
  ·rintro H2 ⟨s2,xs,pss,eD,pp,hl,erd⟩
   rw[List.length_map,lls,List.drop_length]at erd
   have erd:Bs rows=.ok pss:=by rw[erd];show Except.ok (pss++[])=_;rw[List.append_nil]
   have ht:Eh a H2 D pss:=⟨xs,eD,pim pp fun x q h=>h.2⟩
   have o2:=o1.JO s2
   have hn2:=s2 _ _ (s1 _ _ hn)
   refine sq_ (CZ (AQ rfl) Ax (BY (fun e7=>?_) (fun e7=>?_)))
   ·have e7:(c:Int)<7:=of_decide_eq_true e7
    obtain⟨ans,ea,est⟩:=sh.dice (d:=d) hin (by omega) erd
    have gv:=NR o2 est
    exact⟨_,rfl,_,rfl,_,rfl,c,nl,D,ns,pss,ans,rfl,hn2,ht,ea,fun p H3 s3 n3 e3=>gv p H3 O ((G1.same s2).same s3) (AK.out s3) (Fe.refl _ _) e3⟩
   ·have e7:¬(c:Int)<7:=fun z=>e7 (decide_eq_true z)
    exact nx_ ⟨_,rfl,_,rfl,_,rfl,_,rfl,c,g,nl,D,rfl,sh.aM hin (by omega) hd erd (G1.same s2) hn2 ht o2⟩
end
theorem A2.there (h:A2 a H g O d):∀b∈O,∃o,H b=some o:=by
 cases d with
 |none=>
  obtain⟨⟨dg,e⟩,rfl⟩:=h
  intro b hb
  have hb:b=g:=by simpa using hb
  exact⟨_,by rw[hb];exact e⟩
 |some D=>
  obtain⟨f,l,td,x0,la0,lw0,x1,la1,lw1,c0,c1,kvs,⟨dg,e⟩,F,rfl⟩:=h
  intro b hb
  obtain⟨df,hf⟩:=F.ins
  obtain⟨d0,h0⟩:=F.s0.ins
  obtain⟨d1,h1⟩:=F.s1.ins
  obtain⟨as0,e0,_⟩:=F.s0.acts
  obtain⟨as1,e1,_⟩:=F.s1.acts
  have hb':b=g\/b=f\/b=td\/b=x0\/b=x1\/b=la0\/b=la1:=by simpa using hb
  rcases hb' with z|z|z|z|z|z|z
  ·exact⟨_,by rw[z];exact e⟩
  ·exact⟨_,by rw[z];exact hf⟩
  ·exact⟨_,by rw[z];exact F.td⟩
  ·exact⟨_,by rw[z];exact h0⟩
  ·exact⟨_,by rw[z];exact h1⟩
  ·exact⟨_,by rw[z];exact e0⟩
  ·exact⟨_,by rw[z];exact e1⟩
def Low (d:Option Duel)(r:Vbrgag.State×List Int):Prop:=∀code,r.2=[code]->code<0->-9<=code/\r.1=⟨d⟩
theorem DM (h:-9<=k):Low d (⟨d⟩,[k]):=fun code e _=>by
 cases e
 exact⟨h,rfl⟩
theorem IM:Low d (⟨d'⟩,0::l):=fun code e n=>by
 have:(0:Int)=code:=(List.cons.inj e).1
 omega
theorem Yn:Low (some D) (⟨some (Vbrgag.addAct D s act).1⟩,(Vbrgag.addAct D s act).2):=by
 by_cases h:3<=(D.side (s == 0)).acts.length
 ·rw[M7 h];exact DM (by decide)
 ·unfold Vbrgag.addAct
  simp only[h,if_false]
  exact IM
theorem Shape.low {c:Nat}{ns:List Int}{rows:List (List Int)}{call:Vbrgag.Call}{d:Option Duel}(h:Shape c ns rows call):Low d (Vbrgag.step ⟨d⟩ call):=by
 cases hr:Vbrgag.inRange call with
 |false=>rw[TC hr];exact DM (by decide)
 |true=>
  by_cases hd:c<=7\/d≠none
  ·cases e:Bs rows with
   |error k=>rw[h.err hr hd e];exact DM (by unfold codeOf;split <;> decide)
   |ok pss=>
    by_cases hc:c<7
    ·obtain⟨ans,_,q⟩:=h.dice (d:=d) hr hc e
     rw[q]
     exact IM
    ·by_cases h7:c=7
     ·subst h7
      cases h with
      |c7 x y=>
       unfold Vbrgag.step
       rw[if_neg (by rw[hr];decide)]
       exact IM
     ·obtain⟨D,rfl⟩:∃D,d=some D:=by
       cases d with
       |none=>exact absurd rfl (hd.resolve_left (by omega))
       |some D=>exact⟨D,rfl⟩
      rw[h.duel hr (by omega)]
      cases h with
      |c0|c1|c2|c3|c4|c5|c6|c7=>first|exact absurd (by decide) hc|exact absurd rfl h7
      |c8 s n t u=>
       obtain⟨ps,qs,q1,q2,rfl⟩:=KZ e
       have eo:Vbrgag.onDuel D (.hurt s n t u)=Vbrgag.addAct D s (Vbrgag.actOf false (Vbrgag.atLeast (Vbrgag.distOf ps) n) (Vbrgag.distOf ps).total (Vbrgag.distOf qs)):=by simp[Vbrgag.onDuel,q1,q2]
       rw[eo]
       exact Yn
      |c9 s t=>
       obtain⟨ps,q1,rfl⟩:=CQ e
       have eo:Vbrgag.onDuel D (.heal s t)=Vbrgag.addAct D s (Vbrgag.actOf true 1 1 (Vbrgag.distOf ps)):=by simp[Vbrgag.onDuel,q1]
       rw[eo]
       exact Yn
      |c10 n w x y=>
       cases q1:Vbrgag.inDuel D x y with
       |false=>simp only[Vbrgag.onDuel,q1,if_true];exact DM (by decide)
       |true=>cases q2:Vbrgag.ready D with
        |false=>simp only[Vbrgag.onDuel,q1,q2];exact DM (by decide)
        |true=>simp only[Vbrgag.onDuel,q1,q2];exact IM
      |c11 n w x y=>
       cases q1:Vbrgag.inDuel D x y with
       |false=>simp only[Vbrgag.onDuel,q1,if_true];exact DM (by decide)
       |true=>cases q2:Vbrgag.ready D with
        |false=>simp only[Vbrgag.onDuel,q1,q2];exact DM (by decide)
        |true=>
         simp only[Vbrgag.onDuel,q1,q2]
         cases Vbrgag.Duel.best D n.toNat (w == 0) x.toNat y.toNat <;> exact IM
      |c12 s=>exact IM
      |c13 s i n x y=>
       cases q1:Vbrgag.inDuel D x y with
       |false=>simp only[Vbrgag.onDuel,q1,if_true];exact DM (by decide)
       |true=>cases q2:Vbrgag.ready D with
        |false=>simp only[Vbrgag.onDuel,q1,q2];exact DM (by decide)
        |true=>
         cases q3:(Vbrgag.Duel.side D (s == 0)).acts[(i - 1).toNat]? with
         |none=>simp only[Vbrgag.onDuel,q1,q2,q3];exact DM (by decide)
         |some act=>cases q4:(Vbrgag.ended x.toNat y.toNat).isSome with
          |true=>simp only[Vbrgag.onDuel,q1,q2,q3,q4];exact DM (by decide)
          |false=>simp only[Vbrgag.onDuel,q1,q2,q3,q4];exact IM
  ·have:d=none:=by
    cases d with
    |none=>rfl
    |some D=>exact absurd (.inr (by simp)) hd
   subst this
   rw[h.Wx hr (by omega)]
   exact DM (by decide)
section
variable {P:Program}{w:World}{K:PySem.W.Frag}{mg:Str->Option Value}{base:Heap}{a:Ad}
def lh (a:Ad):Sp:=fun vs H Q _=>∃(g nl rl:Addr) (O:List Addr) (d:Option Duel) (c:Nat) (ns:List Int) (rows:List (List Int)) (call:Vbrgag.Call),vs=[.ref g,.int c,.ref nl,.ref rl]/\A2 a H g O d/\H nl=some (.lst (iv ns))/\Y3 H rl rows/\Shape c ns rows call/\c<14/\ns.length=(As c).length/\
 rows.length<=2/\(Vbrgag.step ⟨d⟩ call).2.length<=10000/\Gv a H g O (Vbrgag.step ⟨d⟩ call).1.duel (Vbrgag.step ⟨d⟩ call).2 Q
theorem lj:AL ["game","call","numbers","rows"] ["game","call","numbers","rows"] (AG HH):=⟨rfl,rfl,rfl,by decide +kernel,rfl,by decide +kernel,by decide +kernel⟩
def hrd (D:Ends)(code:Int)(H:Hp):Prop:=∀p,H p=none->D.rt (.ref p) (upd H p (.lst [.int code]))
theorem D9 (h:hrd D (-n) H):∀σ,Ql (Z7 (CG (tUn (rU fun i=>.int (-i)) (tC (.int n))) DT)) D σ H:=fun σ=>⟨n,rfl,(by show 1<=sizeLine;decide),fun p hp=>h p hp⟩
theorem Zf {code:Int}(h1:code<0)(h2:-9<=code):code= -1\/code= -2\/code= -3\/code= -4\/code= -5\/code= -6\/code= -7\/code= -8\/code= -9:=by omega
theorem ko (T:Tx K mg a):Fn P w K mg base CX0 11 a.Gk ["game","call","numbers","rows"] (lh a):=by
 obtain⟨fd,F,hb⟩:=T.RK
 refine F.fn hb lj (fun vs H Q E h=>?_) (fun cdv A outer s H vs Q E hr h=>?_)
 ·obtain⟨g,nl,rl,O,d,c,ns,rows,call,rfl,_⟩:=h
  rfl
 ·obtain⟨g,nl,rl,O,d,c,ns,rows,call,rfl,G,hn,hrows,sh,hc,hlen,hr2,hbig,k⟩:=h
  have low:=sh.low (d:=d)
  refine⟨_,AF (iN (D0:={nx:=fun _ H'=>Q .non H',rt:=Q}) fun pins=>AF (AO (AS JU (An (AA AH AE)) (Ac (E:=fun cc _ H'=>∃code,(Vbrgag.step ⟨d⟩ call).2=[code]/\code<0/\cc=.ref (YA a code)/\AK H H') (iS T) hr rfl T.MG (jw (fun _=>rfl) rfl rfl rfl ?_) (AA (pv 0) (AA (pv 1) (AA (pv 2) (AA (pv 3) AE)))))))),?_⟩
  ·rintro cc _ H' ⟨code,e1,e2,rfl,s1⟩
   refine⟨_,rfl,?_⟩
   obtain⟨l1,l2⟩:=low code e1 e2
   have fin:hrd {nx:=fun _ H'=>Q .non H',rt:=Q} code H':=fun p hp=>by
    rw[e1,l2]at k
    exact k p _ O ((G.same s1).same (.new hp)) (AK.out (s1.trans (.new hp))) (Fe.refl _ _) AB
   rcases Zf e2 l1 with rfl|rfl|rfl|rfl|rfl|rfl|rfl|rfl|rfl
   ·exact .take rfl T.A7 T.A8 (by decide) (fun e=>AF (AO (An (AA (JT Fo AH) AE)))) (D9 fin)
   ·exact .skip rfl T.A7 T.DH T.A8 T.Km (by decide) (.take rfl T.EA T.DH (by decide) (fun e=>AF (AO (An (AA (JT Fo AH) AE)))) (D9 fin))
   ·exact .skip rfl T.A7 T.Bp T.A8 T.Jr (by decide) (.skip rfl T.EA T.Bp T.DH T.NA (by decide) (.take rfl T.CS T.Bp (by decide) (fun e=>AF (AO (An (AA (JT Fo AH) AE)))) (D9 fin)))
   ·exact .skip rfl T.A7 T.Aj T.A8 T.E8 (by decide) (.skip rfl T.EA T.Aj T.DH T.HI (by decide) (.skip rfl T.CS T.Aj T.Bp T.GD (by decide) (.take rfl T.A0 T.Aj (by decide) (fun e=>AF (AO (An (AA (JT Fo AH) AE)))) (D9 fin))))
   ·exact .skip rfl T.A7 T.BE T.A8 T.HJ (by decide) (.skip rfl T.EA T.BE T.DH T.Js (by decide) (.skip rfl T.CS T.BE T.Bp T.Ir (by decide) (.skip rfl T.A0 T.BE T.Aj T.Ez (by decide) (.take rfl T.CP T.BE (by decide) (fun e=>AF (AO (An (AA (JT Fo AH) AE)))) (D9 fin)))))
   ·exact .skip rfl T.A7 T.Bc T.A8 T.IP (by decide) (.skip rfl T.EA T.Bc T.DH T.LV (by decide) (.skip rfl T.CS T.Bc T.Bp T.Kn (by decide) (.skip rfl T.A0 T.Bc T.Aj T.FP (by decide) (.skip rfl T.CP T.Bc T.BE T.Hn (by decide) (.take rfl T.Et T.Bc (by decide) (fun e=>AF (AO (An (AA (JT Fo AH) AE)))) (D9 fin))))))
   ·exact .skip rfl T.A7 T.DE T.A8 T.Ko (by decide) (.skip rfl T.EA T.DE T.DH T.OD (by decide) (.skip rfl T.CS T.DE T.Bp T.NB (by decide) (.skip rfl T.A0 T.DE T.Aj T.HK (by decide) (.skip rfl T.CP T.DE T.BE T.Jt (by decide) (.skip rfl T.Et T.DE T.Bc T.LW (by decide) (.take rfl T.Ln T.DE (by decide) (fun e=>AF (AO (An (AA (JT Fo AH) AE)))) (D9 fin)))))))
   ·exact .skip rfl T.A7 T.Bf T.A8 T.IQ (by decide) (.skip rfl T.EA T.Bf T.DH T.LX (by decide) (.skip rfl T.CS T.Bf T.Bp T.Kp (by decide) (.skip rfl T.A0 T.Bf T.Aj T.FQ (by decide) (.skip rfl T.CP T.Bf T.BE T.Ho (by decide) (.skip rfl T.Et T.Bf T.Bc T.Iu (by decide) (.skip rfl T.Ln T.Bf T.DE T.LY (by decide) (.take rfl T.Ju T.Bf (by decide) (fun e=>AF (AO (An (AA (JT Fo AH) AE)))) (D9 fin))))))))
   ·exact .skip rfl T.A7 T.BF T.A8 T.HM (by decide) (.skip rfl T.EA T.BF T.DH T.Jv (by decide) (.skip rfl T.CS T.BF T.Bp T.Iv (by decide) (.skip rfl T.A0 T.BF T.Aj T.E1 (by decide) (.skip rfl T.CP T.BF T.BE T.GF (by decide) (.skip rfl T.Et T.BF T.Bc T.Hq (by decide) (.skip rfl T.Ln T.BF T.DE T.Jw (by decide) (.skip rfl T.Ju T.BF T.Bf T.Hr (by decide) (.take rfl T.K6 T.BF (by decide) (fun e=>AF (AO (An (AA (JT Fo AH) AE)))) (D9 fin)))))))))
  ·refine⟨rfl,?_⟩
   refine⟨(by show 1<=sizeLine;decide),fun l0 hl0=>?_⟩
   have s0:AK H (upd H l0 (.lst [.int 0])):=.new hl0
   have el0:(upd H l0 (.lst [.int 0])) l0=some (.lst [.int 0]):=AB
   generalize upd H l0 (.lst [.int 0])=H1 at s0 el0
   have nO:l0∉O:=fun hb=>by
    obtain⟨o,e⟩:=G.there l0 hb
    rw[e]at hl0
    cases hl0
   refine⟨_,rfl,_,rfl,_,rfl,_,rfl,g,nl,rl,O,d,c,ns,rows,call,rfl,G.same s0,s0 _ _ hn,hrows.same s0,sh,hc,hlen,hr2,?_,?_⟩
   ·intro code e1 e2 H' s1
    exact⟨code,e1,e2,rfl,s0.trans s1⟩
   ·intro ans ea l H2 O' G2 out2 new2 el2
    rw[ea]at k hbig
    have hs:sizeLine=16777216:=sizeLine_eq
    rw[List.length_cons]at hbig
    refine⟨l0,l,_,_,rfl,rfl,out2 _ _ nO el0,el2,by rw[Ay];show 1+_<=_;omega,fun p hp=>?_⟩
    exact k p _ O' (G2.same (.new hp)) (fun b o hb e=>(AK.new hp) _ _ (out2 b o hb (s0 _ _ e))) (new2.JO s0) AB
end
def SO (cs:List Int):Nat->List (List Int)->Nat->Prop
 |p,[],p'=>p'=p
 |p,row::r,p'=>cs[p]? =some (row.length:Int)/\(cs.drop (p+1)).take row.length=row/\SO cs (p+1+row.length) r p'
section
variable {P:Program}{w:World}{K:PySem.W.Frag}{mg:Str->Option Value}{base:Heap}{a:Ad}
theorem Vi (R:Kl a H rd cl p)(b:But rd H H'):Keeps H H':=by
 obtain⟨d,R⟩:=R
 refine⟨fun c xs e=>b _ _ (Af e R (fun z=>nomatch z)) e,fun c k e=>b _ _ (Af e R (fun z=>nomatch z)) e,fun c C d f v r hf e=>b _ _ (Af e R fun z=>?_) e⟩
 injection z with _ _ z
 injection z with z
 exact hf (congrArg Prod.fst z)
theorem jI (R:Kl a H rd cl p)(G:A2 a H g O d):rd∉O:=by
 obtain⟨dr,R⟩:=R
 have ni:∀{b C d:Addr}{fs r:List (Str×V)}{f:Str}{v:V},fs=(f,v)::r->f≠"calls"->H b=some (.ins C d fs)->rd≠b:=fun e1 e2 e=>Ne.symm (Af e R fun z=>by
  injection z with _ _ z
  rw[e1]at z
  injection z with z
  exact e2 (congrArg Prod.fst z))
 have nl:∀{b:Addr}{xs:List V},H b=some (.lst xs)->rd≠b:=fun e=>Af R e (fun z=>nomatch z)
 cases d with
 |none=>
  obtain⟨⟨dg,e⟩,rfl⟩:=G
  have:=ni rfl (by decide) e
  simpa using this
 |some D=>
  obtain⟨f,l,td,x0,la0,lw0,x1,la1,lw1,c0,c1,kvs,⟨dg,e⟩,F,rfl⟩:=G
  obtain⟨df,hf⟩:=F.ins
  obtain⟨d0,h0⟩:=F.s0.ins
  obtain⟨d1,h1⟩:=F.s1.ins
  obtain⟨as0,e0,_⟩:=F.s0.acts
  obtain⟨as1,e1,_⟩:=F.s1.acts
  intro hb
  have hb':rd=g\/rd=f\/rd=td\/rd=x0\/rd=x1\/rd=la0\/rd=la1:=by simpa using hb
  rcases hb' with z|z|z|z|z|z|z
  ·exact ni rfl (by decide) e z
  ·exact ni rfl (by decide) hf z
  ·exact Af R F.td (fun z=>nomatch z) z
  ·exact ni rfl (by decide) h0 z
  ·exact ni rfl (by decide) h1 z
  ·exact nl e0 z
  ·exact nl e1 z
def dj (K:PySem.W.Frag)(a:Ad):Sp:=fun vs H Q _=>∃(g rd cl:Addr) (O:List Addr) (d:Option Duel) (p p' c:Nat) (cs ns:List Int) (rows:List (List Int)) (call:Vbrgag.Call),vs=[.ref g,.ref rd]/\A2 a H g O d/\Kl a H rd cl p/\SqL K H cl (iv cs)/\cs[p]? =some (c:Int)/\
 (cs.drop (p+1)).take (As c).length=ns/\SO cs (p+1+(As c).length) rows p'/\Shape c ns rows call/\c<14/\ns.length=(As c).length/\rows.length=rowsOf c/\(Vbrgag.step ⟨d⟩ call).2.length<=10000/\
 ∀l H' O',A2 a H' g O' (Vbrgag.step ⟨d⟩ call).1.duel->Kl a H' rd cl p'->(∀b o,b∉O->b≠rd->H b=some o->H' b=some o)->Fe H O O'->H' l=some (.lst (iv (Vbrgag.step ⟨d⟩ call).2))->Q (.ref l) H'
theorem YT:AL ["game","reader","call","form","numbers","rows","row"] ["game","reader"] (AG HA):=⟨rfl,rfl,rfl,by decide +kernel,rfl,by decide +kernel,by decide +kernel⟩
theorem L0:rowsOf c<=2:=by unfold rowsOf;split <;> decide
theorem PL (b:But x H H')(hx:H' x=some o)(h:H' l=none):H l=none:=by
 cases q:H l with
 |none=>rfl
 |some o'=>
  by_cases e:l=x
  ·rw[e,hx]at h;cases h
  ·rw[b _ _ e q]at h;cases h
theorem dk (T:Tx K mg a):Fn P w K mg base CX0 12 a.GX ["game","reader"] (dj K a):=by
 obtain⟨fd,F,hb⟩:=T.Q5
 obtain⟨ft,ktab,forms⟩:=T.Rx
 refine F.fn hb YT (fun vs H Q E h=>?_) (fun cdv A outer s H vs Q E hr h=>?_)
 ·obtain⟨g,rd,cl,O,d,p,p',c,cs,ns,rows,call,rfl,_⟩:=h
  rfl
 ·obtain⟨g,rd,cl,O,d,p,p',c,cs,ns,rows,call,rfl,G,R,hcl,hc0,hns,htk,sh,hc,hlen,hrl,hbig,k⟩:=h
  have nd:=YT.nd
  have hs:sizeLine=16777216:=sizeLine_eq
  refine⟨_,AD (AN (i:=2) nd rfl (Or.inl rfl) (Aa AR (B4 (pv 1) T.B8 T.Bl (YU T) hr AU (AA AH AE)) AH (fun _ _=>rfl)))
   (AD (AN (i:=3) nd rfl (Or.inl rfl) (OV rfl T.X7 ktab (pv 2) (fun _ _=>rfl)))
   (AD (AN (i:=4) nd rfl (Or.inl rfl) (B4 (pv 1) T.B8 T.Bl (YU T) hr AU (AA (AZ Ai rfl T.EJ CU (AA (Aa Ox (pv 3) AH (fun _ _=>rfl)) AE)) AE)))
   (AD (AN (i:=5) nd rfl (Or.inl rfl) (An AE))
   (AD (BD PassesOwn.never rfl (Bo rfl T.Cc (AA (Aa Ox (pv 3) AH (fun _ _=>rfl)) AE)) (AX (i:=6) nd rfl (Or.inl rfl))
    (AF (Az (DD PySem.F.plainAttrs_list PySem.F.slot_list_append PySem.F.type_list_append BM (pv 5) (AA (Ck (pv 1) T.B8 T.L1 (km T) hr AU) AE)))))
   (AF (AO (Ac (ko T) hr rfl T.Q6 AU (AA (pv 0) (AA (pv 2) (AA (pv 4) (AA (pv 5) AE))))))))))),?_⟩
  obtain⟨t,r,ps,e1,k1,k2,k3⟩:=forms c hc
  have lps:ps.length=(As c).length:=Paired.length k3
  obtain⟨dr,hrd⟩:=id R
  refine⟨_,rfl,rd,dr,_,rfl,hrd,rfl,rd,cl,p,1,cs,rfl,R,hcl,fun l1 H1 R1 b1 n1 el1=>?_⟩
  have ec:((cs.drop p).take 1)[0]? =some (c:Int):=by
   rw[List.getElem?_take,if_pos (by decide),List.getElem?_drop]
   exact hc0
  have hcl1:=Mx hcl R b1
  refine⟨l1,_,0,_,rfl,rfl,SqL.of el1,BO (j:=0) (SQ ec),?_⟩
  refine⟨_,rfl,c,_,.ref t,rfl,e1,rfl,?_⟩
  obtain⟨dr1,hrd1⟩:=id R1
  refine⟨_,rfl,rd,dr1,_,rfl,hrd1,rfl,_,rfl,t,_,0,_,rfl,rfl,k1.sq,BO (j:=0) rfl,r,_,rfl,.inr k2.sq,?_⟩
  rw[List.length_map,lps]
  refine⟨rd,cl,p+1,(As c).length,cs,rfl,R1,hcl1,fun l2 H2 R2 b2 n2 el2=>?_⟩
  rw[hns]at el2
  have hcl2:=Mx hcl1 R1 b2
  refine⟨(by show 0<=sizeLine;decide),fun rl hrl0=>?_⟩
  have s3:AK H2 (upd H2 rl (.lst [])):=.new hrl0
  have b03:But rd H (upd H2 rl (.lst [])):=(b1.trans b2).trans s3.but
  have R3:Kl a (upd H2 rl (.lst [])) rd cl (p+1+(As c).length):=Bt.same R2 s3
  have el3:=s3 _ _ el2
  have e3:(upd H2 rl (.lst [])) rl=some (.lst []):=AB
  have hcl3:SqL K (upd H2 rl (.lst [])) cl (iv cs):=s3.seq hcl2
  have nrl:H rl=none:=by
   obtain⟨_,q2⟩:=id R2
   obtain⟨_,q1⟩:=id R1
   exact PL b1 q1 (PL b2 q2 hrl0)
  have nl2rl:l2≠rl:=AM el2 hrl0
  generalize upd H2 rl (.lst [])=H3 at s3 b03 R3 el3 e3 hcl3
  refine⟨_,rfl,t,_,1,_,rfl,rfl,k1.sq,BO (j:=1) rfl,((rowsOf c:Nat):Int),rfl,(by have:=L0 (c:=c);omega),(by have:=L0 (c:=c);omega),?_⟩
  rw[Int.toNat_natCast]
  refine B6 (n:=rowsOf c) (fun i σ H'=>∃(v:Option V) (q:Nat) (ls:List Addr),σ=[some (.ref g),some (.ref rd),some (.int c),some (.ref t),some (.ref l2),some (.ref rl),v]/\But rd H H'/\Kl a H' rd cl q/\SqL K H' cl (iv cs)/\H' l2=some (.lst (iv ns))/\H' rl=some (.lst (ls.map V.ref))/\
    Paired (fun x row=>x≠rl/\H' x=some (.lst (iv row))) ls (rows.take i)/\SO cs q (rows.drop i) p')
   ⟨none,_,[],rfl,b03,R3,hcl3,el3,e3,.nil,htk⟩ ?_ ?_
  ·rintro i σ H' hi ⟨v,q,ls,rfl,b4,R4,hcl4,el4,e4,pp,tk⟩
   obtain⟨row,hrow⟩:∃row,rows[i]? =some row:=⟨rows[i]'(by omega),List.getElem?_eq_getElem (by omega)⟩
   have edr:rows.drop i=row::rows.drop (i+1):=by
    have hil:=List.getElem?_eq_some_iff.mp hrow
    rw[<-hil.2]
    exact List.drop_eq_getElem_cons hil.1
   rw[edr]at tk
   obtain⟨t1,t2,t3⟩:=tk
   obtain⟨dr4,hrd4⟩:=id R4
   refine⟨_,rfl,.inl ⟨rfl,_,SqL.of e4⟩,_,rfl,rd,dr4,_,rfl,hrd4,rfl,rd,cl,q,row.length,cs,rfl,R4,hcl4,t1,fun l H5 R5 b5 n5 e5=>?_⟩
   rw[t2]at e5
   have kp:=Vi R4 b5
   have hcl5:=Mx hcl4 R4 b5
   have e4':=kp.lst _ _ e4
   have nlr:l≠rl:=Ne.symm (AM e4 n5)
   have lls:ls.length=i:=by rw[Paired.length pp,List.length_take];omega
   refine⟨rl,_,_,rfl,rfl,e4',by rw[List.length_map];have:=L0 (c:=c);omega,?_⟩
   obtain⟨dr5,hrd5⟩:=id R5
   have nrr:rd≠rl:=Af hrd5 e4' (fun z=>nomatch z)
   have bN:But rd H (upd H5 rl (.lst (ls.map V.ref++[.ref l]))):=fun b o nb e=>by
    rw[AI (AM e nrl)]
    exact b5 _ _ nb (b4 _ _ nb e)
   have hclu:SqL K (upd H5 rl (.lst (ls.map V.ref++[.ref l]))) cl (iv cs):=Mx hcl R bN
   refine⟨_,_,ls++[l],rfl,bN,⟨dr5,by rw[AI nrr];exact hrd5⟩,hclu,by rw[AI nl2rl];exact kp.lst _ _ el4,by rw[AB,List.map_append];rfl,?_,t3⟩
   ·rw[List.take_add_one,hrow]
    exact GK ⟨nlr,by rw[AI nlr];exact e5⟩ (pim pp fun x row h=>⟨h.1,by rw[AI h.1];exact kp.lst _ _ h.2⟩)
  ·rintro σ H' ⟨v,q,ls,rfl,b4,R4,hcl4,el4,e4,pp,tk⟩
   rw[<-hrl,List.take_length]at pp
   rw[<-hrl,List.drop_length]at tk
   have eq':p'=q:=tk
   subst eq'
   have G4:=(Vi R b4).jJ G
   have nO:=jI R4 G4
   refine⟨_,rfl,_,rfl,_,rfl,_,rfl,g,l2,rl,O,d,c,ns,rows,call,rfl,G4,el4,⟨ls,e4,pim pp fun x r h=>h.2⟩,sh,hc,hlen,by rw[hrl];exact L0,hbig,?_⟩
   intro l H5 O' G5 out5 new5 e5
   obtain⟨dr4,hrd4⟩:=id R4
   refine k l H5 O' G5 ⟨dr4,out5 _ _ nO hrd4⟩ (fun b o hb nb e=>out5 b o hb (b4 b o nb e)) (fun b hb=>?_) e5
   rcases new5 b hb with z|z
   ·exact .inl z
   ·exact .inr (PL b4 hrd4 z)
end
inductive Run (cs:List Int):Option Duel->Nat->Nat->List Int->Prop
 |done {d:Option Duel}{p:Nat}(h:cs.length<=p):Run cs d p 0 []
 |call {d:Option Duel}{p p' c n:Nat}{ns:List Int}{rows:List (List Int)}{call:Vbrgag.Call}{out:List Int}(h1:cs[p]? =some (c:Int)) (h2:(cs.drop (p+1)).take (As c).length=ns) (h3:SO cs (p+1+(As c).length) rows p') (h4:Shape c ns rows call) (h5:c<14)
   (h6:ns.length=(As c).length) (h7:rows.length=rowsOf c) (h:Run cs (Vbrgag.step ⟨d⟩ call).1.duel p' n out):Run cs d p (n+1) (((Vbrgag.step ⟨d⟩ call).2.length:Int)::((Vbrgag.step ⟨d⟩ call).2++out))
section
variable {P:Program}{w:World}{K:PySem.W.Frag}{mg:Str->Option Value}{base:Heap}{a:Ad}
theorem Keeps.ku (h:H t=some (.frz od u)):Keeps H (upd H t o):=
 ⟨fun b xs e=>by rw[AI (Af e h (fun z=>nomatch z))];exact e,fun b k e=>by rw[AI (Af e h (fun z=>nomatch z))];exact e,fun b C d f v r _ e=>by rw[AI (Af e h (fun z=>nomatch z))];exact e⟩
theorem T8:upd (upd H t x) t y=upd H t y:=by
 funext b
 by_cases e:b=t
 ·rw[e,AB,AB]
 ·rw[AI e,AI e,AI e]
theorem A2.plain (h:A2 a H g O d)(ht:H t=some (.frz od u)):t∉O:=by
 cases d with
 |none=>
  obtain⟨⟨dg,e⟩,rfl⟩:=h
  intro hb
  have hb:t=g:=by simpa using hb
  exact Af ht e (fun z=>nomatch z) hb
 |some D=>
  obtain⟨f,l,td,x0,la0,lw0,x1,la1,lw1,c0,c1,kvs,⟨dg,e⟩,F,rfl⟩:=h
  intro hb
  obtain⟨df,hf⟩:=F.ins
  obtain⟨d0,h0⟩:=F.s0.ins
  obtain⟨d1,h1⟩:=F.s1.ins
  obtain⟨as0,e0,_⟩:=F.s0.acts
  obtain⟨as1,e1,_⟩:=F.s1.acts
  have hb':t=g\/t=f\/t=td\/t=x0\/t=x1\/t=la0\/t=la1:=by simpa using hb
  rcases hb' with z|z|z|z|z|z|z
  ·exact Af ht e (fun z=>nomatch z) z
  ·exact Af ht hf (fun z=>nomatch z) z
  ·exact Af ht F.td (fun z=>nomatch z) z
  ·exact Af ht h0 (fun z=>nomatch z) z
  ·exact Af ht h1 (fun z=>nomatch z) z
  ·exact Af ht e0 (fun z=>nomatch z) z
  ·exact Af ht e1 (fun z=>nomatch z) z
def Short (a:Ad):Prop:=∀(H:Hp) (g:Addr) (O:List Addr) (d:Option Duel) (c:Nat) (ns:List Int) (rows:List (List Int)) (call:Vbrgag.Call),A2 a H g O d->Shape c ns rows call->(Vbrgag.step ⟨d⟩ call).2.length<=10000
def LM (K:PySem.W.Frag):Sp:=fun vs H Q _=>∃(cl:Addr) (cs:List Int) (n:Nat) (out:List Int),vs=[.ref cl]/\SqL K H cl (iv cs)/\Run cs none 0 n out/\n<=60/\∀l H',H' l=some (.lst (iv out))->Q (.ref l) H'
theorem PR:AL ["calls","game","reader","told","answer"] ["calls"] (AG KU):=⟨rfl,rfl,rfl,by decide +kernel,rfl,by decide +kernel,by decide +kernel⟩
theorem XW (F:Fun K "answers" "answers" KU a.answers fd)(T:Tx K mg a)(short:Short a):Ls P w K mg base CX0 13 a.answers fd ["calls"] (LM K):=by
 refine F.ok PR (fun vs H Q E h=>?_) (fun cdv A outer s H vs Q E hr h=>?_)
 ·obtain⟨cl,cs,n,out,rfl,_⟩:=h
  rfl
 ·obtain⟨cl,cs,n,out,rfl,hcl,run,hn,k⟩:=h
  have nd:=PR.nd
  have hs:sizeLine=16777216:=sizeLine_eq
  refine⟨_,AD (AN (i:=1) nd rfl (Or.inl rfl) (jL T.jM (T9 T) hr rfl T.jN AU))
   (AD (AN (i:=2) nd rfl (Or.inl rfl) (Dv T.au (PU T) hr rfl T.aw AU (AA (pv 0) AE)))
   (AD (AN (i:=3) nd rfl (Or.inl rfl) (An AE))
   (AD (VN PassesOwn.never (LC (Ck (pv 2) T.B8 T.L4 (d6 T) hr AU))
    (AD (Tr (AN (i:=4) nd rfl (Or.inl rfl) (Ac (dk T) hr rfl T.RA AU (AA (pv 1) (AA (pv 2) AE)))))
    (AD (Az (DD PySem.F.plainAttrs_list PySem.F.slot_list_append PySem.F.type_list_append BM (pv 3) (AA (AZ Ai rfl T.EJ CU (AA (pv 4) AE)) AE)))
    (AF (Az (DD PySem.F.plainAttrs_list PySem.F.slot_list_extend PySem.F.type_list_extend Mf (pv 3) (AA (pv 4) AE)))))))
   (AF (AO (pv 3)))))),?_⟩
  intro g dg ng ndg neg
  refine⟨g,dg,rfl,AB,fun H1 hg1 b1=>⟨rfl,?_⟩⟩
  have s1:AK H H1:=.init ng ndg b1
  refine⟨_,rfl,?_⟩
  intro rd dr nr ndr ner
  refine⟨rd,dr,cl,rfl,AB,fun H2 R2 b2=>⟨rfl,?_⟩⟩
  have s2:AK H1 H2:=.init nr ndr b2
  refine⟨(by show 0<=sizeLine;decide),fun tl htl=>?_⟩
  have s3:AK H2 (upd H2 tl (.lst [])):=.new htl
  have s03:=(s1.trans s2).trans s3
  have hg2:=s2 _ _ hg1
  have ngt:g≠tl:=AM hg2 htl
  have et:(upd H2 tl (.lst [])) tl=some (.lst (iv [])):=AB
  have R3:Kl a (upd H2 tl (.lst [])) rd cl 0:=Bt.same R2 s3
  have G3:∀od u,A2 a (upd (upd H2 tl (.lst [])) tl (.frz od u)) g [g] none:=fun od u=>⟨⟨dg,by rw[AI ngt,AI ngt];exact hg2⟩,rfl⟩
  generalize upd H2 tl (.lst [])=H3 at s3 s03 et R3 G3
  have ntl:H tl=none:=(s1.trans s2).free htl
  have nrd:H rd=none:=s1.free nr
  refine⟨fun m σ H'=>∃(v4:Option V) (O:List Addr) (d:Option Duel) (p:Nat) (told rest:List Int),σ=[some (.ref cl),some (.ref g),some (.ref rd),some (.ref tl),v4]/\AK H H'/\(∀b∈O,H b=none)/\(∀od u,A2 a (upd H' tl (.frz od u)) g O d)/\Kl a H' rd cl p/\H' tl=some (.lst (iv told))/\
    Run cs d p m rest/\told++rest=out/\told.length+10001*m<=10001*60/\m<=60,
   ⟨n,none,[g],none,0,[],out,rfl,s03,fun b hb=>(by have hb:b=g:=(by simpa using hb);rw[hb];exact ng),G3,R3,et,run,rfl,by show 0+_<=_;omega,hn⟩,?_⟩
  rintro m σ H' ⟨v4,O,d,p,told,rest,rfl,sH,hO,G,R,et,run,hout,hlen,hm⟩
  obtain⟨dr',hrd⟩:=id R
  have hcl':SqL K H' cl (iv cs):=sH.seq hcl
  refine⟨_,rfl,rd,dr',_,rfl,hrd,rfl,rd,cl,p,cs,rfl,R,hcl',_,rfl,?_⟩
  cases run with
  |done hp=>
   rw[decide_eq_false (by omega)]
   refine N6 ⟨_,rfl,k tl H' ?_⟩
   rw[<-hout,List.append_nil]
   exact et
  |@call d p p' c n ns rows call out' h1 h2 h3 h4 h5 h6 h7 h=>
   have hpl:p<cs.length:=(List.getElem?_eq_some_iff.mp h1).1
   rw[decide_eq_true hpl]
   refine LB ⟨_,fun σ' H'' q=>q,?_⟩
   refine⟨tl,_,et,True.intro,fun od=>?_⟩
   have nrt:rd≠tl:=Af hrd et (fun z=>nomatch z)
   have RL:Kl a (upd H' tl (.frz od (.lst (iv told)))) rd cl p:=⟨dr',by rw[AI nrt];exact hrd⟩
   have eL:(upd H' tl (.frz od (.lst (iv told)))) tl=some (.frz od (.lst (iv told))):=AB
   have GL:=G od (.lst (iv told))
   have sHL:∀b o,H b=some o->(upd H' tl (.frz od (.lst (iv told)))) b=some o:=fun b o e=>by rw[AI (AM e ntl)];exact sH _ _ e
   have fL:∀b,(upd H' tl (.frz od (.lst (iv told)))) b=none->H b=none:=fun b e=>by
    cases q:H b with
    |none=>rfl
    |some o=>rw[sHL _ _ q]at e;cases e
   have hclL:SqL K (upd H' tl (.frz od (.lst (iv told)))) cl (iv cs):=AK.seq sHL hcl
   generalize upd H' tl (.frz od (.lst (iv told)))=HL at RL eL GL sHL fL hclL
   have sht:=short HL g O d c ns rows call GL h4
   have ntO:tl∉O:=GL.plain eL
   refine⟨_,rfl,_,rfl,g,rd,cl,O,d,p,p',c,cs,ns,rows,call,rfl,GL,RL,hclL,h1,h2,h3,h4,h5,h6,h7,sht,fun l H5 O' G5 R5 kp5 new5 el5=>?_⟩
   have eT5:=kp5 tl _ ntO (Ne.symm nrt) eL
   have nlt:l≠tl:=Af el5 eT5 (fun z=>nomatch z)
   obtain⟨dr5,hrd5⟩:=id R5
   generalize hr2:(Vbrgag.step ⟨d⟩ call).2=ans at el5 sht hout hlen
   have lt2:told.length<=600060:=by omega
   refine⟨eT5,?_⟩
   have e6t:(upd H5 tl (.lst (iv told))) tl=some (.lst (iv told)):=AB
   have e6l:(upd H5 tl (.lst (iv told))) l=some (.lst (iv ans)):=by rw[AI nlt];exact el5
   refine⟨_,rfl,.inl ⟨rfl,_,SqL.of e6t⟩,_,rfl,l,_,rfl,.inl (SqL.of e6l),tl,_,_,rfl,rfl,e6t,by rw[Ay];omega,?_⟩
   rw[Ay,T8]
   have ea:iv told++[V.int ((ans.length:Nat):Int)]=iv (told++[(ans.length:Int)]):=DU told [(ans.length:Int)]
   rw[ea]
   have e7t:(upd H5 tl (.lst (iv (told++[(ans.length:Int)])))) tl=some (.lst (iv (told++[(ans.length:Int)]))):=AB
   have e7l:(upd H5 tl (.lst (iv (told++[(ans.length:Int)])))) l=some (.lst (iv ans)):=by rw[AI nlt];exact el5
   refine⟨_,rfl,.inl ⟨rfl,_,SqL.of e7t⟩,_,rfl,tl,l,_,_,rfl,rfl,e7t,e7l,by rw[Ay,Ay,List.length_append];show _+1+_<=_;omega,?_⟩
   rw[T8,DU]
   refine⟨n,Nat.lt_succ_self n,some (.ref l),O',_,p',told++[(ans.length:Int)]++ans,out',rfl,fun b o e=>?_,fun b hb=>?_,fun od u=>?_,⟨dr5,by rw[AI nrt];exact hrd5⟩,AB,h,?_,?_,by omega⟩
   ·rw[AI (AM e ntl)]
    exact kp5 b o (fun hb=>by rw[hO b hb]at e;cases e) (fun z=>by rw[z,nrd]at e;cases e) (sHL _ _ e)
   ·rcases new5 b hb with z|z
    ·exact hO b z
    ·exact fL b z
   ·rw[T8]
    exact(Keeps.ku eT5).jJ G5
   ·rw[<-hout,List.append_assoc,List.append_assoc]
    rfl
   ·rw[List.length_append,List.length_append]
    show _+1+_+_<=_
    omega
end
theorem Sr:∀{ps:List Vbrgag.Part},(∀p∈ps,Dm.Fits p)->(Vbrgag.writeParts ps).length<=21*ps.length
 |[],_=>Nat.le_refl _
 |p::r,h=>by
  have h1:=text_len (h p List.mem_cons_self)
  have h2:=Sr (ps:=r) fun q hq=>h q (List.mem_cons_of_mem _ hq)
  show(_::(Vbrgag.partText p++Vbrgag.writeParts r)).length<=_
  rw[List.length_cons,List.length_append,List.length_cons]
  omega
theorem Ss (ps:List Vbrgag.Part):∀(j s:Nat),(Vbrgag.rollsOf ps j s).length=j
 |0,s=>rfl
 |j+1,s=>by
  show(_::_).length=_
  rw[List.length_cons,Ss ps j]
theorem bu:∀{c:Nat}{ns:List Int}{pss:List (List Vbrgag.Part)}{ans:List Int},OF c ns pss=some ans->(∀ps∈pss,ps.length<=3/\∀p∈ps,Dm.Fits p)->ans.length<=9999
 |0,_,_,_,h,_=>by obtain⟨ps,rfl,rfl,rfl⟩:=gT h;show 1<=_;decide
 |1,_,_,_,h,hp=>by
  obtain⟨ps,rfl,rfl,rfl⟩:=gU h
  obtain⟨h1,h2⟩:=hp ps (by simp)
  have:=Sr h2
  unfold Vbrgag.write
  rw[List.length_drop]
  omega
 |2,_,_,_,h,hp=>by
  obtain⟨ps,rfl,rfl,rfl⟩:=gW h
  obtain⟨h1,h2⟩:=hp ps (by simp)
  have:=(Dm.DF h2).len
  rw[List.length_cons,List.length_map]
  omega
 |3,_,_,_,h,_=>by obtain⟨v,ps,rfl,rfl,rfl⟩:=gX h;rw[D8];decide
 |4,_,_,_,h,_=>by obtain⟨ps,qs,rfl,rfl,rfl⟩:=gM h;rw[List.length_append,D8,D8];decide
 |5,_,_,_,h,_=>by obtain⟨ps,rfl,rfl,rfl⟩:=gO h;rw[List.length_append,D8,D8];decide
 |6,_,_,_,h,_=>by obtain⟨z,k,m,ps,rfl,rfl,hh,rfl⟩:=gQ h;rw[Ss];omega
 |c+7,_,_,_,h,_=>by cases h
theorem WK:∀{rows:List (List Int)}{pss:List (List Vbrgag.Part)},Bs rows=.ok pss->∀ps∈pss,ps.length<=3/\∀p∈ps,Dm.Fits p
 |[],pss,h,ps,hp=>by cases h;simp at hp
 |t::r,pss,h,ps,hp=>by
  cases q:Vbrgag.read t with
  |error k=>rw[NQ q]at h;cases h
  |ok ps'=>
   rw[Ov q]at h
   cases e:Bs r with
   |error k=>rw[e]at h;cases h
   |ok pss'=>
    rw[e]at h
    cases h
    rcases List.mem_cons.mp hp with z|z
    ·rw[z];exact Dm.YB q
    ·exact WK e ps z
def Small (r:Vbrgag.State×List Int):Prop:=r.2.length<=10000
theorem small_one:Small (d,[k]):=by show 1<=_;decide
theorem QA:Small (d,0::Vbrgag.told q):=by show 3<=_;decide
theorem Su:Small (⟨some (Vbrgag.addAct D s act).1⟩,(Vbrgag.addAct D s act).2):=by
 unfold Vbrgag.addAct
 by_cases h:3<=(D.side (s == 0)).acts.length
 ·simp only[h,if_true];exact small_one
 ·simp only[h,if_false];show 2<=_;decide
theorem WL:∀{l:List Act},(∀act∈l,act.outs.length=16)->(l.flatMap Bx).length<=18*l.length
 |[],_=>Nat.le_refl _
 |x::r,h=>by
  rw[List.flatMap_cons,List.length_append,List.length_cons]
  have h1:=WL (l:=r) fun a ha=>h a (List.mem_cons_of_mem _ ha)
  have h2:(Bx x).length=18:=by
   unfold Bx
   rw[List.length_cons,List.length_cons,List.length_map,h x List.mem_cons_self]
  omega
theorem Shape.small {c:Nat}{ns:List Int}{rows:List (List Int)}{call:Vbrgag.Call}{d:Option Duel}(h:Shape c ns rows call)(hD:∀D,d=some D->∀mine,(D.side mine).acts.length<=3/\∀act∈(D.side mine).acts,act.outs.length=16):Small (Vbrgag.step ⟨d⟩ call):=by
 cases hr:Vbrgag.inRange call with
 |false=>rw[TC hr];exact small_one
 |true=>
  by_cases hd:c<=7\/d≠none
  ·cases e:Bs rows with
   |error k=>rw[h.err hr hd e];exact small_one
   |ok pss=>
    by_cases hc:c<7
    ·obtain⟨ans,ha,q⟩:=h.dice (d:=d) hr hc e
     rw[q]
     have:=bu ha (WK e)
     show(0::ans).length<=_
     rw[List.length_cons]
     omega
    ·by_cases h7:c=7
     ·subst h7
      cases h with
      |c7 x y=>
       unfold Vbrgag.step
       rw[if_neg (by rw[hr];decide)]
       exact small_one
     ·obtain⟨D,rfl⟩:∃D,d=some D:=by
       cases d with
       |none=>exact absurd rfl (hd.resolve_left (by omega))
       |some D=>exact⟨D,rfl⟩
      rw[h.duel hr (by omega)]
      cases h with
      |c0|c1|c2|c3|c4|c5|c6|c7=>first|exact absurd (by decide) hc|exact absurd rfl h7
      |c8 s n t u=>
       obtain⟨ps,qs,q1,q2,rfl⟩:=KZ e
       have eo:Vbrgag.onDuel D (.hurt s n t u)=Vbrgag.addAct D s (Vbrgag.actOf false (Vbrgag.atLeast (Vbrgag.distOf ps) n) (Vbrgag.distOf ps).total (Vbrgag.distOf qs)):=by simp[Vbrgag.onDuel,q1,q2]
       rw[eo]
       exact Su
      |c9 s t=>
       obtain⟨ps,q1,rfl⟩:=CQ e
       have eo:Vbrgag.onDuel D (.heal s t)=Vbrgag.addAct D s (Vbrgag.actOf true 1 1 (Vbrgag.distOf ps)):=by simp[Vbrgag.onDuel,q1]
       rw[eo]
       exact Su
      |c10 n w x y=>
       cases q1:Vbrgag.inDuel D x y with
       |false=>simp only[Vbrgag.onDuel,q1,if_true];exact small_one
       |true=>cases q2:Vbrgag.ready D with
        |false=>simp only[Vbrgag.onDuel,q1,q2];exact small_one
        |true=>simp only[Vbrgag.onDuel,q1,q2];exact QA
      |c11 n w x y=>
       cases q1:Vbrgag.inDuel D x y with
       |false=>simp only[Vbrgag.onDuel,q1,if_true];exact small_one
       |true=>cases q2:Vbrgag.ready D with
        |false=>simp only[Vbrgag.onDuel,q1,q2];exact small_one
        |true=>
         simp only[Vbrgag.onDuel,q1,q2]
         cases Vbrgag.Duel.best D n.toNat (w == 0) x.toNat y.toNat with
         |none=>exact small_one
         |some i=>show 2<=_;decide
      |c12 s=>
       obtain⟨h1,h2⟩:=hD D rfl (s == 0)
       have:=WL h2
       show(0::((D.side (s == 0)).hp:Int)::(D.side (s == 0)).acts.flatMap Bx).length<=_
       rw[List.length_cons,List.length_cons]
       omega
      |c13 s i n x y=>
       cases q1:Vbrgag.inDuel D x y with
       |false=>simp only[Vbrgag.onDuel,q1,if_true];exact small_one
       |true=>cases q2:Vbrgag.ready D with
        |false=>simp only[Vbrgag.onDuel,q1,q2];exact small_one
        |true=>
         cases q3:(Vbrgag.Duel.side D (s == 0)).acts[(i - 1).toNat]? with
         |none=>simp only[Vbrgag.onDuel,q1,q2,q3];exact small_one
         |some act=>cases q4:(Vbrgag.ended x.toNat y.toNat).isSome with
          |true=>simp only[Vbrgag.onDuel,q1,q2,q3,q4];exact small_one
          |false=>simp only[Vbrgag.onDuel,q1,q2,q3,q4];exact QA
  ·have:d=none:=by
    cases d with
    |none=>rfl
    |some D=>exact absurd (.inr (by simp)) hd
   subst this
   rw[h.Wx hr (by omega)]
   exact small_one
theorem Zm (a:Ad):Short a:=fun H g O d c ns rows call G sh=>sh.small fun D e mine=>by
 subst e
 obtain⟨f,l,td,x0,la0,lw0,x1,la1,lw1,c0,c1,kvs,_,F,_⟩:=G
 have sd:=F.Z5 mine
 exact⟨sd.few,fun act ha=>(sd.good act ha).1.len⟩
theorem cR (h:PyVbrgag.shape p=some (n,k)):∃c:Nat,c<14/\p=(c:Int)/\n=(As c).length/\k=rowsOf c:=by
 unfold PyVbrgag.shape at h
 by_cases e0:p=0
 ·rw[if_pos e0]at h;cases h;exact⟨0,by decide,e0,rfl,rfl⟩
 rw[if_neg e0]at h
 by_cases e1:p=1
 ·rw[if_pos e1]at h;cases h;exact⟨1,by decide,e1,rfl,rfl⟩
 rw[if_neg e1]at h
 by_cases e2:p=2
 ·rw[if_pos e2]at h;cases h;exact⟨2,by decide,e2,rfl,rfl⟩
 rw[if_neg e2]at h
 by_cases e3:p=3
 ·rw[if_pos e3]at h;cases h;exact⟨3,by decide,e3,rfl,rfl⟩
 rw[if_neg e3]at h
 by_cases e4:p=4
 ·rw[if_pos e4]at h;cases h;exact⟨4,by decide,e4,rfl,rfl⟩
 rw[if_neg e4]at h
 by_cases e5:p=5
 ·rw[if_pos e5]at h;cases h;exact⟨5,by decide,e5,rfl,rfl⟩
 rw[if_neg e5]at h
 by_cases e6:p=6
 ·rw[if_pos e6]at h;cases h;exact⟨6,by decide,e6,rfl,rfl⟩
 rw[if_neg e6]at h
 by_cases e7:p=7
 ·rw[if_pos e7]at h;cases h;exact⟨7,by decide,e7,rfl,rfl⟩
 rw[if_neg e7]at h
 by_cases e8:p=8
 ·rw[if_pos e8]at h;cases h;exact⟨8,by decide,e8,rfl,rfl⟩
 rw[if_neg e8]at h
 by_cases e9:p=9
 ·rw[if_pos e9]at h;cases h;exact⟨9,by decide,e9,rfl,rfl⟩
 rw[if_neg e9]at h
 by_cases e10:p=10
 ·rw[if_pos e10]at h;cases h;exact⟨10,by decide,e10,rfl,rfl⟩
 rw[if_neg e10]at h
 by_cases e11:p=11
 ·rw[if_pos e11]at h;cases h;exact⟨11,by decide,e11,rfl,rfl⟩
 rw[if_neg e11]at h
 by_cases e12:p=12
 ·rw[if_pos e12]at h;cases h;exact⟨12,by decide,e12,rfl,rfl⟩
 rw[if_neg e12]at h
 by_cases e13:p=13
 ·rw[if_pos e13]at h;cases h;exact⟨13,by decide,e13,rfl,rfl⟩
 rw[if_neg e13]at h
 cases h
theorem Shape.whole {c:Nat}{ns:List Int}{rows:List (List Int)}{call:Vbrgag.Call}(h:Shape c ns rows call):PyVbrgag.whole (((c:Int)::ns)::rows)=((c:Int)::ns)::rows:=by
 cases h <;> rfl
theorem drop_cons {cs:List Int}{q:Nat}{n:Int}{r:List Int}(h:cs.drop q=n::r):cs[q]? =some n/\r=cs.drop (q+1):=by
 constructor
 ·have:=congrArg (fun l=>l[0]?) h
  simpa using this
 ·have:=congrArg (fun l=>l.drop 1) h
  simp only[List.drop_drop,List.drop_one,List.tail_cons]at this
  rw[<-this]
theorem Wb {cs:List Int}:∀{k q:Nat}{xs:List (List Int)}{t:List Int},PyFlat.rows k (cs.drop q)=some (xs,t)->∃p',SO cs q xs p'/\t=cs.drop p'/\xs.length=k
 |0,q,xs,t,h=>by
  unfold PyFlat.rows at h
  cases h
  exact⟨q,rfl,rfl,rfl⟩
 |k+1,q,xs,t,h=>by
  unfold PyFlat.rows at h
  cases e:PyFlat.row (cs.drop q)with
  |none=>rw[e]at h;cases h
  |some y=>
   obtain⟨x,s⟩:=y
   rw[e]at h
   dsimp only at h
   cases e2:PyFlat.rows k s with
   |none=>rw[e2]at h;cases h
   |some z=>
    obtain⟨xs',t'⟩:=z
    rw[e2]at h
    cases h
    cases hd:cs.drop q with
    |nil=>rw[hd]at e;cases e
    |cons n r=>
     rw[hd]at e
     have e:(if 0<=n/\n.toNat<=r.length then some (r.take n.toNat,r.drop n.toNat)else none)=some (x,s):=e
     by_cases hn:0<=n/\n.toNat<=r.length
     ·rw[if_pos hn]at e
      cases e
      obtain⟨h1,rfl⟩:=drop_cons hd
      have hl:((cs.drop (q+1)).take n.toNat).length=n.toNat:=by rw[List.length_take];omega
      rw[List.drop_drop]at e2
      obtain⟨p',tk,et,el⟩:=Wb e2
      refine⟨p',⟨?_,?_,?_⟩,et,by rw[List.length_cons,el]⟩
      ·rw[hl,h1]
       congr 1
       omega
      ·rw[hl]
      ·rw[hl]
       exact tk
     ·rw[if_neg hn]at e
      cases e
theorem fJ {cs:List Int}{q:Nat}{c:List (List Int)}{t:List Int}(h:PyFlat.call PyVbrgag.shape (cs.drop q)=some (c,t)):
  ∃(k:Nat) (ns:List Int) (rows:List (List Int)) (p':Nat),cs[q]? =some (k:Int)/\(cs.drop (q+1)).take (As k).length=ns/\SO cs (q+1+(As k).length) rows p'/\k<14/\ns.length=(As k).length/\rows.length=rowsOf k/\c=((k:Int)::ns)::rows/\t=cs.drop p':=by
 cases hd:cs.drop q with
 |nil=>rw[hd]at h;cases h
 |cons p r=>
  rw[hd]at h
  unfold PyFlat.call at h
  dsimp only at h
  cases e:PyVbrgag.shape p with
  |none=>rw[e]at h;cases h
  |some y=>
   obtain⟨n,k⟩:=y
   rw[e]at h
   dsimp only at h
   obtain⟨c0,hc,rfl,rfl,rfl⟩:=cR e
   obtain⟨h1,rfl⟩:=drop_cons hd
   split at h
   ·cases h
   ·rename_i hlt
    rw[List.drop_drop]at h
    cases e2:PyFlat.rows (rowsOf c0) (cs.drop (q+1+(As c0).length))with
    |none=>rw[e2]at h;cases h
    |some z=>
     obtain⟨xs,t'⟩:=z
     rw[e2]at h
     cases h
     obtain⟨p',tk,et,el⟩:=Wb e2
     exact⟨c0,_,xs,p',h1,rfl,tk,hc,by rw[List.length_take];omega,el,rfl,et⟩
theorem cS:∀{f p:Nat}{d:Option Duel}{l:List (List (List Int))},PyFlat.calls PyVbrgag.shape f (cs.drop p)=some l->Run cs d p l.length (PyFlat.told (PyFlat.played VbrgagNeutral.step ⟨d⟩ l))/\l.map PyVbrgag.whole=l
 |f,p,d,l,h=>by
  cases hd:cs.drop p with
  |nil=>
   rw[hd]at h
   unfold PyFlat.calls at h
   cases h
   exact⟨.done (by have:=congrArg List.length hd;rw[List.length_drop]at this;simpa using Nat.le_of_sub_eq_zero (by simpa using this)),rfl⟩
  |cons y r=>
   cases f with
   |zero=>rw[hd]at h;unfold PyFlat.calls at h;cases h
   |succ f=>
    rw[hd]at h
    unfold PyFlat.calls at h
    rw[<-hd]at h
    cases e:PyFlat.call PyVbrgag.shape (cs.drop p)with
    |none=>rw[e]at h;cases h
    |some z=>
     obtain⟨c,t⟩:=z
     rw[e]at h
     dsimp only at h
     cases e2:PyFlat.calls PyVbrgag.shape f t with
     |none=>rw[e2]at h;cases h
     |some l'=>
      rw[e2]at h
      cases h
      obtain⟨k,ns,rows,p',h1,h2,h3,h5,h6,h7,rfl,rfl⟩:=fJ e
      obtain⟨call,sh⟩:=bF h5 h6 h7
      have es:VbrgagNeutral.step ⟨d⟩ (((k:Int)::ns)::rows)=Vbrgag.step ⟨d⟩ call:=by
       show Vbrgag.stepNumbers ⟨d⟩ (((k:Int)::ns)::rows)=_
       unfold Vbrgag.stepNumbers
       rw[sh.decode]
      obtain⟨hr,hw⟩:=cS (f:=f) (d:=(Vbrgag.step ⟨d⟩ call).1.duel) e2
      have:=Run.call (d:=d) h1 h2 h3 sh h5 h6 h7 hr
      refine⟨?_,by rw[List.map_cons,sh.whole,hw]⟩
      show Run cs d p (l'.length+1) (PyFlat.told ((VbrgagNeutral.step ⟨d⟩ (((k:Int)::ns)::rows)).2::PyFlat.played VbrgagNeutral.step (VbrgagNeutral.step ⟨d⟩ (((k:Int)::ns)::rows)).1 l'))
      rw[es]
      exact this
theorem fK (h:PyVbrgag.answers_asked cs=true):∃n,n<=60/\Run cs none 0 n (PyVbrgag.answers cs):=by
 unfold PyVbrgag.answers_asked at h
 unfold PyVbrgag.answers
 unfold PyVbrgag.calls at h ⊢
 cases e:PyFlat.calls PyVbrgag.shape cs.length cs with
 |none=>rw[e]at h;cases h
 |some l=>
  rw[e]at h
  dsimp only at h ⊢
  obtain⟨hr,hw⟩:=cS (cs:=cs) (f:=cs.length) (p:=0) (d:=none) (l:=l) (by rw[List.drop_zero];exact e)
  rw[hw]at h ⊢
  rw[Bool.and_eq_true]at h
  exact⟨l.length,of_decide_eq_true h.1,hr⟩
def WX (K:PySem.W.Frag)(a:Addr):Option (List Value):=match K.lookup a with
 |some ⟨.type c,_,.seq its _,_⟩=>if c="tuple" then some its.toList else none
 |_=>none
theorem QG {K:PySem.W.Frag}{a:Addr}{us:List Value}{xs:List V}(h:WX K a=some us)(hl:us.length<=9)(hv:Vals xs us):NH K a xs:=by
 unfold WX at h
 split at h
 ·rename_i c d its n sl e
  split at h
  ·rename_i ec
   have z:its.toList=us:=Option.some.inj h
   subst z
   subst ec
   refine⟨_,its,n,e,rfl,rfl,?_,hv⟩
   rw[Array.length_toList]at hl
   exact Nat.le_trans hl (by decide)
  ·cases h
 ·cases h
def Uc (K:PySem.W.Frag)(a:Addr)(b:Int×Int):Bool:=match WX K a with
 |some [.int x _,.int y _]=>decide (x=b.1)&&decide (y=b.2)
 |_=>false
theorem Zq {K:PySem.W.Frag}{a:Addr}{b:Int×Int}(h:Uc K a b=true):NH K a [.int b.1,.int b.2]:=by
 unfold Uc at h
 split at h
 ·rename_i x t y u e
  rw[Bool.and_eq_true]at h
  have e1:=of_decide_eq_true h.1
  have e2:=of_decide_eq_true h.2
  subst e1
  subst e2
  exact QG e (show 2<=9 by decide) (.cons ⟨_,rfl⟩ (.cons ⟨_,rfl⟩ .nil))
 ·cases h
def cE:Value->Option Addr
 | .ref p=>some p
 |_=>none
theorem cF {u:Value}{p:Addr}(h:cE u=some p):u=.ref p:=by
 unfold cE at h
 split at h
 ·cases h
  rfl
 ·cases h
def MU (K:PySem.W.Frag):List Value->List (Int×Int)->Bool
 |[],[]=>true
 |u::us,b::bs=>match cE u with
  |some p=>Uc K p b&&MU K us bs
  |none=>false
 |_,_=>false
theorem QH {K:PySem.W.Frag}:∀{us:List Value}{bs:List (Int×Int)},MU K us bs=true->∃ps:List Addr,Vals (ps.map V.ref) us/\Paired (fun p (b:Int×Int)=>NH K p [.int b.1,.int b.2]) ps bs
 |[],[],_=>⟨[],.nil,.nil⟩
 |u::us,b::bs,h=>by
  unfold MU at h
  split at h
  ·rename_i p e
   have q:Uc K p b=true/\MU K us bs=true:=Bool.and_eq_true_iff.mp h
   obtain⟨ps,h1,h2⟩:=QH q.2
   exact⟨p::ps,.cons (cF e) h1,.cons (Zq q.1) h2⟩
  ·cases h
 |[],_::_,h=>Bool.noConfusion h
 |_::_,[],h=>Bool.noConfusion h
def Xu (K:PySem.W.Frag)(l:List (Int×Value))(c:Nat):Bool:=match tabAt l (c:Int)with
 |some (.ref t)=>match WX K t with
  |some [.ref r,.int n _]=>decide (n=(rowsOf c:Nat))&&(match WX K r with
   |some us=>decide (us.length<=9)&&MU K us (As c)
   |none=>false)
  |_=>false
 |_=>false
theorem Zr {K:PySem.W.Frag}{l:List (Int×Value)}{c:Nat}(h:Xu K l c=true):∃(t r:Addr) (ps:List Addr),tabAt l (c:Int)=some (.ref t)/\NH K t [.ref r,.int (rowsOf c:Nat)]/\NH K r (ps.map V.ref)/\
  Paired (fun p (b:Int×Int)=>NH K p [.int b.1,.int b.2]) ps (As c):=by
 unfold Xu at h
 split at h
 ·rename_i t e1
  split at h
  ·rename_i r n u e2
   rw[Bool.and_eq_true]at h
   obtain⟨h1,h2⟩:=h
   have e3:=of_decide_eq_true h1
   subst e3
   split at h2
   ·rename_i us e4
    rw[Bool.and_eq_true]at h2
    obtain⟨ps,q1,q2⟩:=QH h2.2
    exact⟨t,r,ps,e1,QG e2 (show 2<=9 by decide) (.cons rfl (.cons ⟨_,rfl⟩ .nil)),QG e4 (of_decide_eq_true h2.1) q1,q2⟩
   ·cases h2
  ·cases h
 ·cases h
theorem cG {K:PySem.W.Frag}{l:List (Int×Value)}(h:(List.range 14).all (Xu K l)=true):hR K l:=fun c hc=>Zr (List.all_eq_true.mp h c (List.mem_range.mpr hc))
def hZ (K:PySem.W.Frag)(n:Str)(i:Int):Bool:=match PySem.W.nsIn K mainGlobals n with
 |some (some (.int j _))=>decide (j=i)
 |_=>false
theorem CB {K:PySem.W.Frag}{h:Heap}{mg:Str->Option Value}{n:Str}{i:Int}(KX:K.In h)(G:h.Ns mainGlobals mg)(e:hZ K n i=true):∃t,mg n=some (.int i t):=by
 unfold hZ at e
 split at e
 ·rename_i j t q
  have z:=of_decide_eq_true e
  subst z
  exact⟨t,PySem.W.mg_of KX G q⟩
 ·cases e
def Hb (x qual:Str)(st:Stmt)(ps:List Str):Prop:=∀(kV doc pm:Value) (an:Option Addr) (cdv ct:Value) (us:List Value),us.length=ps.length->bindArgs (PySem.W.fnOf x qual (Dz st) (Cb st) (AG st) .none kV doc pm an cdv ct) ⟨us,[]⟩=pure (ps.zip us)
theorem AW {K:PySem.W.Frag}{x qual:Str}{st:Stmt}{f:Addr}{ps:List Str}{oc:Value}{od an:Option Addr}{osl:Array (Option Value)}{kV doc pm cdv ct:Value}(hb:Hb x qual st ps)(l:K.lookup f=some ⟨oc,od,.func (PySem.W.fnOf x qual (Dz st) (Cb st) (AG st) .none kV doc pm an cdv ct),osl⟩)
  (c:PySem.W.codeIn K cdv qual=true)(k:PySem.W.keepIn K (.ref f)=true):Df K x qual st f ps:=
 ⟨_,jD (st:=st) l c k,.all (hb kV doc pm an cdv ct)⟩
theorem hl1 {us:List Value}(h:us.length=1):∃u0,us=[u0]:=by
 obtain _|⟨u0,us⟩:=us
 ·cases h
 obtain _|⟨v,us⟩:=us
 ·exact⟨u0,rfl⟩
 ·cases h
theorem hb1 {x qual:Str}{st:Stmt}{p0:Str}(h:∀(kV doc pm:Value) (an:Option Addr) (cdv ct u0:Value),bindArgs (PySem.W.fnOf x qual (Dz st) (Cb st) (AG st) .none kV doc pm an cdv ct) ⟨[u0],[]⟩=pure [(p0,u0)]):Hb x qual st [p0]:=fun kV doc pm an cdv ct us hl=>by
 obtain⟨u0,rfl⟩:=hl1 hl
 exact h kV doc pm an cdv ct u0
theorem hl2 {us:List Value}(h:us.length=2):∃u0 u1,us=[u0,u1]:=by
 obtain _|⟨u0,us⟩:=us
 ·cases h
 obtain _|⟨u1,us⟩:=us
 ·cases h
 obtain _|⟨v,us⟩:=us
 ·exact⟨u0,u1,rfl⟩
 ·cases h
theorem hb2 {x qual:Str}{st:Stmt}{p0 p1:Str}(h:∀(kV doc pm:Value) (an:Option Addr) (cdv ct u0 u1:Value),bindArgs (PySem.W.fnOf x qual (Dz st) (Cb st) (AG st) .none kV doc pm an cdv ct) ⟨[u0,u1],[]⟩=pure [(p0,u0),(p1,u1)]):Hb x qual st [p0,p1]:=fun kV doc pm an cdv ct us hl=>by
 obtain⟨u0,u1,rfl⟩:=hl2 hl
 exact h kV doc pm an cdv ct u0 u1
theorem hl3 {us:List Value}(h:us.length=3):∃u0 u1 u2,us=[u0,u1,u2]:=by
 obtain _|⟨u0,us⟩:=us
 ·cases h
 obtain _|⟨u1,us⟩:=us
 ·cases h
 obtain _|⟨u2,us⟩:=us
 ·cases h
 obtain _|⟨v,us⟩:=us
 ·exact⟨u0,u1,u2,rfl⟩
 ·cases h
theorem hb3 {x qual:Str}{st:Stmt}{p0 p1 p2:Str}(h:∀(kV doc pm:Value) (an:Option Addr) (cdv ct u0 u1 u2:Value),bindArgs (PySem.W.fnOf x qual (Dz st) (Cb st) (AG st) .none kV doc pm an cdv ct) ⟨[u0,u1,u2],[]⟩=pure [(p0,u0),(p1,u1),(p2,u2)]):Hb x qual st [p0,p1,p2]:=fun kV doc pm an cdv ct us hl=>by
 obtain⟨u0,u1,u2,rfl⟩:=hl3 hl
 exact h kV doc pm an cdv ct u0 u1 u2
theorem hl4 {us:List Value}(h:us.length=4):∃u0 u1 u2 u3,us=[u0,u1,u2,u3]:=by
 obtain _|⟨u0,us⟩:=us
 ·cases h
 obtain _|⟨u1,us⟩:=us
 ·cases h
 obtain _|⟨u2,us⟩:=us
 ·cases h
 obtain _|⟨u3,us⟩:=us
 ·cases h
 obtain _|⟨v,us⟩:=us
 ·exact⟨u0,u1,u2,u3,rfl⟩
 ·cases h
theorem hb4 {x qual:Str}{st:Stmt}{p0 p1 p2 p3:Str}(h:∀(kV doc pm:Value) (an:Option Addr) (cdv ct u0 u1 u2 u3:Value),bindArgs (PySem.W.fnOf x qual (Dz st) (Cb st) (AG st) .none kV doc pm an cdv ct) ⟨[u0,u1,u2,u3],[]⟩=pure [(p0,u0),(p1,u1),(p2,u2),(p3,u3)]):Hb x qual st [p0,p1,p2,p3]:=fun kV doc pm an cdv ct us hl=>by
 obtain⟨u0,u1,u2,u3,rfl⟩:=hl4 hl
 exact h kV doc pm an cdv ct u0 u1 u2 u3
theorem hl5 {us:List Value}(h:us.length=5):∃u0 u1 u2 u3 u4,us=[u0,u1,u2,u3,u4]:=by
 obtain _|⟨u0,us⟩:=us
 ·cases h
 obtain _|⟨u1,us⟩:=us
 ·cases h
 obtain _|⟨u2,us⟩:=us
 ·cases h
 obtain _|⟨u3,us⟩:=us
 ·cases h
 obtain _|⟨u4,us⟩:=us
 ·cases h
 obtain _|⟨v,us⟩:=us
 ·exact⟨u0,u1,u2,u3,u4,rfl⟩
 ·cases h
theorem hb5 {x qual:Str}{st:Stmt}{p0 p1 p2 p3 p4:Str}(h:∀(kV doc pm:Value) (an:Option Addr) (cdv ct u0 u1 u2 u3 u4:Value),bindArgs (PySem.W.fnOf x qual (Dz st) (Cb st) (AG st) .none kV doc pm an cdv ct) ⟨[u0,u1,u2,u3,u4],[]⟩=pure [(p0,u0),(p1,u1),(p2,u2),(p3,u3),(p4,u4)]):Hb x qual st [p0,p1,p2,p3,p4]:=fun kV doc pm an cdv ct us hl=>by
 obtain⟨u0,u1,u2,u3,u4,rfl⟩:=hl5 hl
 exact h kV doc pm an cdv ct u0 u1 u2 u3 u4
theorem hl6 {us:List Value}(h:us.length=6):∃u0 u1 u2 u3 u4 u5,us=[u0,u1,u2,u3,u4,u5]:=by
 obtain _|⟨u0,us⟩:=us
 ·cases h
 obtain _|⟨u1,us⟩:=us
 ·cases h
 obtain _|⟨u2,us⟩:=us
 ·cases h
 obtain _|⟨u3,us⟩:=us
 ·cases h
 obtain _|⟨u4,us⟩:=us
 ·cases h
 obtain _|⟨u5,us⟩:=us
 ·cases h
 obtain _|⟨v,us⟩:=us
 ·exact⟨u0,u1,u2,u3,u4,u5,rfl⟩
 ·cases h
theorem hb6 {x qual:Str}{st:Stmt}{p0 p1 p2 p3 p4 p5:Str}(h:∀(kV doc pm:Value) (an:Option Addr) (cdv ct u0 u1 u2 u3 u4 u5:Value),bindArgs (PySem.W.fnOf x qual (Dz st) (Cb st) (AG st) .none kV doc pm an cdv ct) ⟨[u0,u1,u2,u3,u4,u5],[]⟩=pure [(p0,u0),(p1,u1),(p2,u2),(p3,u3),(p4,u4),(p5,u5)]):Hb x qual st [p0,p1,p2,p3,p4,p5]:=fun kV doc pm an cdv ct us hl=>by
 obtain⟨u0,u1,u2,u3,u4,u5,rfl⟩:=hl6 hl
 exact h kV doc pm an cdv ct u0 u1 u2 u3 u4 u5
theorem MV:Hb "common_divisor" "common_divisor" EV ["one","other"]:=hb2 fun _ _ _ _ _ _ _ _=>rfl
theorem Lc:Hb "common_multiple" "common_multiple" D5 ["one","other"]:=hb2 fun _ _ _ _ _ _ _ _=>rfl
theorem OH:Hb "lowest_terms" "lowest_terms" Fw ["above","below"]:=hb2 fun _ _ _ _ _ _ _ _=>rfl
theorem Xv:Hb "stirred" "stirred" ND ["x"]:=hb1 fun _ _ _ _ _ _ _=>rfl
theorem cH:Hb "added" "added" UR ["one","other"]:=hb2 fun _ _ _ _ _ _ _ _=>rfl
theorem WY:Hb "mirrored" "mirrored" LZ ["spread"]:=hb1 fun _ _ _ _ _ _ _=>rfl
theorem RZ:Hb "sum_spread" "sum_spread" IU ["dice","faces"]:=hb2 fun _ _ _ _ _ _ _ _=>rfl
theorem Ra:Hb "held_faces" "held_faces" IW ["shown","kept","greatest"]:=hb3 fun _ _ _ _ _ _ _ _ _=>rfl
theorem OI:Hb "one_die_more" "one_die_more" GA ["ways_of_held","faces","kept","greatest"]:=hb4 fun _ _ _ _ _ _ _ _ _ _=>rfl
theorem QI:Hb "kept_spread" "kept_spread" HN ["dice","faces","kept","greatest"]:=hb4 fun _ _ _ _ _ _ _ _ _ _=>rfl
theorem Ud:Hb "digits_of" "digits_of" GU ["number"]:=hb1 fun _ _ _ _ _ _ _=>rfl
theorem NI:Hb "power_at_most" "power_at_most" E6 ["base","exponent","bound"]:=hb3 fun _ _ _ _ _ _ _ _ _=>rfl
theorem QJ:Hb "read_number" "read_number" HF ["row"]:=hb1 fun _ _ _ _ _ _ _=>rfl
theorem Ue:Hb "read_dice" "read_dice" J0 ["sign","dice","behind"]:=hb3 fun _ _ _ _ _ _ _ _ _=>rfl
theorem Ug:Hb "read_part" "read_part" J3 ["sign","row"]:=hb2 fun _ _ _ _ _ _ _ _=>rfl
theorem Rb:Hb "read_parts" "read_parts" IA ["text"]:=hb1 fun _ _ _ _ _ _ _=>rfl
theorem Uh:Hb "read_text" "read_text" JL ["text"]:=hb1 fun _ _ _ _ _ _ _=>rfl
theorem WZ:Hb "one_text" "one_text" LF ["parts"]:=hb1 fun _ _ _ _ _ _ _=>rfl
theorem QK:Hb "text_spread" "text_spread" G8 ["parts"]:=hb1 fun _ _ _ _ _ _ _=>rfl
theorem OJ:Hb "rolled_value" "rolled_value" Fq ["parts","stream"]:=hb2 fun _ _ _ _ _ _ _ _=>rfl
theorem Ui:Hb "read_call" "read_call" J4 ["numbers","texts"]:=hb2 fun _ _ _ _ _ _ _ _=>rfl
theorem Uj:Hb "text_call" "text_call" J5 ["numbers","texts"]:=hb2 fun _ _ _ _ _ _ _ _=>rfl
theorem Uk:Hb "dist_call" "dist_call" J7 ["numbers","texts"]:=hb2 fun _ _ _ _ _ _ _ _=>rfl
theorem QL:Hb "chance_call" "chance_call" HU ["numbers","texts"]:=hb2 fun _ _ _ _ _ _ _ _=>rfl
theorem Rc:Hb "beats_call" "beats_call" IJ ["numbers","texts"]:=hb2 fun _ _ _ _ _ _ _ _=>rfl
theorem Ul:Hb "mean_call" "mean_call" Jp ["numbers","texts"]:=hb2 fun _ _ _ _ _ _ _ _=>rfl
theorem Um:Hb "roll_call" "roll_call" Jq ["numbers","texts"]:=hb2 fun _ _ _ _ _ _ _ _=>rfl
theorem Ku:Hb "answer_dice_call" "answer_dice_call" De ["call","numbers","texts"]:=hb3 fun _ _ _ _ _ _ _ _ _=>rfl
theorem NJ:Hb "points_behind" "points_behind" E7 ["side","now","heals","points"]:=hb4 fun _ _ _ _ _ _ _ _ _ _=>rfl
theorem Uo:Hb "act_worth" "act_worth" Jg ["sides","who","place","a","b","behind"]:=hb6 fun _ _ _ _ _ _ _ _ _ _ _ _=>rfl
theorem Rf:Hb "act_worths" "act_worths" FN ["sides","who","a","b","behind"]:=hb5 fun _ _ _ _ _ _ _ _ _ _ _=>rfl
theorem OK:Hb "wanted_worth" "wanted_worth" F6 ["who","worths"]:=hb2 fun _ _ _ _ _ _ _ _=>rfl
theorem Rg:Hb "last_table" "last_table" FH ["sides"]:=hb1 fun _ _ _ _ _ _ _=>rfl
theorem QM:Hb "odds_before" "odds_before" HG ["sides","who","a","b","behind"]:=hb5 fun _ _ _ _ _ _ _ _ _ _ _=>rfl
theorem OL:Hb "table_before" "table_before" D3 ["sides","who","behind"]:=hb3 fun _ _ _ _ _ _ _ _ _=>rfl
theorem OM:Hb "point_counts" "point_counts" Fs ["spread"]:=hb1 fun _ _ _ _ _ _ _=>rfl
theorem QN:Hb "hurting_act" "hurting_act" Em ["hit","need","harm"]:=hb3 fun _ _ _ _ _ _ _ _ _=>rfl
theorem QO:Hb "healing_act" "healing_act" HC ["healing"]:=hb1 fun _ _ _ _ _ _ _=>rfl
theorem Rh:Hb "begin_call" "begin_call" IX ["game","numbers","texts"]:=hb3 fun _ _ _ _ _ _ _ _ _=>rfl
theorem Up:Hb "hurt_call" "hurt_call" Jh ["game","numbers","texts"]:=hb3 fun _ _ _ _ _ _ _ _ _=>rfl
theorem Uq:Hb "heal_call" "heal_call" Ji ["game","numbers","texts"]:=hb3 fun _ _ _ _ _ _ _ _ _=>rfl
theorem Ur:Hb "odds_call" "odds_call" JB ["game","numbers","texts"]:=hb3 fun _ _ _ _ _ _ _ _ _=>rfl
theorem Us:Hb "best_call" "best_call" JC ["game","numbers","texts"]:=hb3 fun _ _ _ _ _ _ _ _ _=>rfl
theorem Ut:Hb "acts_call" "acts_call" JG ["game","numbers","texts"]:=hb3 fun _ _ _ _ _ _ _ _ _=>rfl
theorem Ri:Hb "worth_call" "worth_call" IY ["game","numbers","texts"]:=hb3 fun _ _ _ _ _ _ _ _ _=>rfl
theorem KC:Hb "answer_fight_call" "answer_fight_call" C9 ["game","call","numbers","texts"]:=hb4 fun _ _ _ _ _ _ _ _ _ _=>rfl
theorem ON:Hb "check_ranges" "check_ranges" GB ["ranges","numbers","rows"]:=hb3 fun _ _ _ _ _ _ _ _ _=>rfl
theorem Rj:Hb "check_duel" "check_duel" IZ ["game","call"]:=hb2 fun _ _ _ _ _ _ _ _=>rfl
theorem Ld:Hb "accepted_answer" "accepted_answer" Ca ["game","call","numbers","rows"]:=hb4 fun _ _ _ _ _ _ _ _ _ _=>rfl
theorem QP:Hb "answer_call" "answer_call" HH ["game","call","numbers","rows"]:=hb4 fun _ _ _ _ _ _ _ _ _ _=>rfl
theorem QQ:Hb "answer_next" "answer_next" HA ["game","reader"]:=hb2 fun _ _ _ _ _ _ _ _=>rfl
theorem QR:Hb "answers" "answers" KU ["calls"]:=hb1 fun _ _ _ _ _ _ _=>rfl
theorem QS:Hb "__init__" "Stream.__init__" HV ["self","seed","number"]:=hb3 fun _ _ _ _ _ _ _ _ _=>rfl
theorem KD:Hb "draw_below" "Stream.draw_below" DA ["self","bound"]:=hb2 fun _ _ _ _ _ _ _ _=>rfl
theorem QT:Hb "__init__" "Spread.__init__" HR ["self","least","counts"]:=hb3 fun _ _ _ _ _ _ _ _ _=>rfl
theorem OO:Hb "rolls" "Spread.rolls" F8 ["self"]:=hb1 fun _ _ _ _ _ _ _=>rfl
theorem Le:Hb "rolls_at" "Spread.rolls_at" EB ["self","value"]:=hb2 fun _ _ _ _ _ _ _ _=>rfl
theorem Iy:Hb "rolls_below" "Spread.rolls_below" Ct ["self","value"]:=hb2 fun _ _ _ _ _ _ _ _=>rfl
theorem KG:Hb "rolls_from" "Spread.rolls_from" C8 ["self","value"]:=hb2 fun _ _ _ _ _ _ _ _=>rfl
theorem QU:Hb "__init__" "Amount.__init__" Gy ["self","sign","amount"]:=hb3 fun _ _ _ _ _ _ _ _ _=>rfl
theorem QV:Hb "fits" "Amount.fits" Gz ["self"]:=hb1 fun _ _ _ _ _ _ _=>rfl
theorem MW:Hb "written" "Amount.written" EO ["self"]:=hb1 fun _ _ _ _ _ _ _=>rfl
theorem NK:Hb "spread" "Amount.spread" E4 ["self"]:=hb1 fun _ _ _ _ _ _ _=>rfl
theorem NL:Hb "rolled" "Amount.rolled" E5 ["self","stream"]:=hb2 fun _ _ _ _ _ _ _ _=>rfl
theorem Uu:Hb "__init__" "Dice.__init__" JP ["self","sign","dice","faces","kept","greatest"]:=hb6 fun _ _ _ _ _ _ _ _ _ _ _ _=>rfl
theorem Uv:Hb "fits" "Dice.fits" Jz ["self"]:=hb1 fun _ _ _ _ _ _ _=>rfl
theorem OP:Hb "written" "Dice.written" F9 ["self"]:=hb1 fun _ _ _ _ _ _ _=>rfl
theorem QW:Hb "spread" "Dice.spread" HQ ["self"]:=hb1 fun _ _ _ _ _ _ _=>rfl
theorem QX:Hb "rolled" "Dice.rolled" HS ["self","stream"]:=hb2 fun _ _ _ _ _ _ _ _=>rfl
theorem Rk:Hb "__init__" "Table.__init__" IC ["self","above","below"]:=hb3 fun _ _ _ _ _ _ _ _ _=>rfl
theorem Wa:Hb "__init__" "Act.__init__" LL ["self","heals","counts"]:=hb3 fun _ _ _ _ _ _ _ _ _=>rfl
theorem Uw:Hb "rolls" "Act.rolls" JZ ["self"]:=hb1 fun _ _ _ _ _ _ _=>rfl
theorem Ux:Hb "__init__" "Side.__init__" J8 ["self","most"]:=hb2 fun _ _ _ _ _ _ _ _=>rfl
theorem OQ:Hb "add_act" "Side.add_act" EC ["self","act"]:=hb2 fun _ _ _ _ _ _ _ _=>rfl
theorem Lf:Hb "weights_of" "Side.weights_of" Ce ["self","act"]:=hb2 fun _ _ _ _ _ _ _ _=>rfl
theorem Rl:Hb "__init__" "Fight.__init__" Ia ["self","first","second"]:=hb3 fun _ _ _ _ _ _ _ _ _=>rfl
theorem Kv:Hb "check_room" "Fight.check_room" DV ["self","who"]:=hb2 fun _ _ _ _ _ _ _ _=>rfl
theorem Iz:Hb "check_points" "Fight.check_points" Cm ["self","a","b"]:=hb3 fun _ _ _ _ _ _ _ _ _=>rfl
theorem MX:Hb "take_act" "Fight.take_act" EW ["self","who","act"]:=hb3 fun _ _ _ _ _ _ _ _ _=>rfl
theorem QY:Hb "table" "Fight.table" G9 ["self","turns","who"]:=hb3 fun _ _ _ _ _ _ _ _ _=>rfl
theorem Lg:Hb "new_table" "Fight.new_table" ED ["self","turns","who"]:=hb3 fun _ _ _ _ _ _ _ _ _=>rfl
theorem Uy:Hb "__init__" "Game.__init__" J9 ["self"]:=hb1 fun _ _ _ _ _ _ _=>rfl
theorem QZ:Hb "__init__" "Reader.__init__" HW ["self","calls"]:=hb2 fun _ _ _ _ _ _ _ _=>rfl
theorem Lh:Hb "has_more" "Reader.has_more" EE ["self"]:=hb1 fun _ _ _ _ _ _ _=>rfl
theorem Ig:Hb "take_numbers" "Reader.take_numbers" CV ["self","many"]:=hb2 fun _ _ _ _ _ _ _ _=>rfl
theorem Li:Hb "take_row" "Reader.take_row" EF ["self"]:=hb1 fun _ _ _ _ _ _ _=>rfl
theorem Cv {K:PySem.W.Frag}{C:Addr}{f:Str}(h:PySem.W.findIn K (.ref C) f=some none):A4 K C f:=h
theorem Xw {K:PySem.W.Frag}{d:Addr}{l:List (Int×Value)}{o:Obj}{es:Array DictEntry}{ep:Nat}(lo:(d == sysModules)=false)(h:K.lookup d=some o)(e:o.ExactDict)(hd:o.data=.dict es ep)(ht:tabOf es.toList=some l)(nd:(l.map (·.1)).Nodup):KTab K d l:=⟨lo,⟨o,es,ep,h,e,hd,ht⟩,nd⟩
abbrev ad:Ad where
 D4:=21
 DL:=28
 FJ:=35
 Oe:=42
 added:=126
 mirrored:=133
 IV:=140
 Ib:=147
 FU:=154
 Gm:=161
 digits_of:=166
 El:=173
 Gh:=395
 Kd:=402
 Ke:=409
 IB:=416
 KI:=423
 Lo:=430
 GV:=437
 FE:=444
 Ea:=451
 Eb:=458
 Ec:=465
 Cu:=472
 Dd:=479
 EY:=486
 EZ:=493
 C4:=501
 En:=529
 KY:=536
 IK:=541
 FO:=548
 IF:=553
 Gj:=560
 FI:=565
 FF:=600
 Gb:=605
 Ga:=612
 Dg:=727
 ES:=734
 EU:=741
 EL:=748
 EM:=755
 EN:=762
 Dh:=769
 Cf:=777
 FV:=878
 Ic:=885
 DJ:=890
 Gk:=897
 GX:=904
 answers:=911
 Stream:=66
 Gr:=56
 Cg:=63
 Ao:=115
 Gp:=84
 FR:=91
 DN:=98
 CL:=105
 Cd:=112
 B5:=218
 GN:=187
 GO:=194
 Du:=201
 Ei:=208
 Ej:=215
 Dt:=267
 KN:=236
 Kc:=243
 FT:=250
 Gn:=257
 Gq:=264
 Table:=518
 ID:=515
 Act:=589
 L3:=579
 KS:=586
 Side:=639
 Kf:=626
 FW:=631
 DO:=636
 BB:=695
 Ie:=657
 C0:=664
 CH:=671
 D6:=678
 GW:=685
 DP:=692
 EI:=716
 Kg:=713
 Reader:=867
 Gs:=843
 DQ:=850
 B2:=857
 DR:=864
 BI:=281
 Ed:=294
 Br:=307
 Ah:=320
 Au:=333
 BV:=346
 DS:=359
 Bg:=372
 BC:=385
 La:=494
 KA:=770
 Rx:=778
theorem jk {P:Program}{w:World}{K:PySem.W.Frag}{h:Heap}{mg:Str->Option Value}{fa:Addr}(KX:K.In h)(hfa:mg "answers"=some (.ref fa))(tf:Tf K mg ad)(tc:Tc K mg ad)(te:Te K mg ad)(tk:Tk K mg ad):
  ∃fd:FuncData,(∀(s:Shared) (us:List Value),us.length=(["calls"]:List Str).length->BindsTo s fd ⟨us,[]⟩ ((["calls"]:List Str).zip us))/\∀base:Heap,K.In base->base.Ns mainGlobals mg->Ls P w K mg base CX0 13 fa fd ["calls"] (LM K):=by
 have T:Tx K mg ad:=⟨tf,tc,te,tk⟩
 cases hfa.symm.trans T.Zp
 obtain⟨fd,F,hb⟩:=T.Zo
 refine⟨fd,?_,fun base _ _=>XW F T (Zm _)⟩
 obtain⟨oc,od,kV,doc,pm,an,cdv,ct,osl,rfl,lk,hcd⟩:=F.ex
 exact fun s us hu=>.of_eq (QR _ _ _ _ _ _ us hu)
end Fd
structure PySem.W.Fast:Prop where(tw10105559410578798760 tw14869671601206754835 tw4564683525381258235 tw1065578438396892064 tw16415572361519148520 tw1020829131445287007 tw10365260042834575297 tw530215186631674733 tw645894666436201619 tw827893318793211042 tw13515367684685832994 tw18051806093467093965 tw10777618985918036876 tw4870913201708377098 tw10825867900840453222 tw2701615685647835575 tw11367402113455965677 tw9488360955359243921 tw14243183239578637419 tw9736090307222967471 tw4535872696764324306 tw10673042408915559051 tw9818896200148340661 tw2342505557345905213 tw18304682758538450048 tw6182626487520457562 tw9290588117287913785 tw6587063723227519526 tw12885946176093722824 tw2258660670924620058 tw7501819527494838961 tw4229396140048226990 tw894572965516717953 tw13214211460083375563 tw14578501136956288371 tw16668993080835428289 tw13275004866460132575 tw1115583611729077656 tw10540509107529977348 tw6657117397792203529 tw14723706804673532743 tw8200881467880040387 tw16792657325093161788 tw4675457582107637610 tw12078359971391070005 tw17487423217337561357 tw3227250703951788008 tw13497880407154206255 tw6092928360405488678 tw3735142888275069689 tw6258003338572436437 tw5830183811883721956 tw13638129122996863199 tw2338564419617444265 tw2526877036163054049 tw3291052254964092905 tw4760393613197977605 tw18016274869630111662 tw5896253647345256901 tw108961044972044850 tw18157151862097604253 tw14949328545622275103 tw18225699765368360591 tw473512688393986644 tw13874789175786828077 tw15760513206927202955 tw2586559791786579362 tw602097417933842013 tw8727823696826365689 tw3235464513247489983 tw14686107342426976827 tw627204866898306123 tw10637226400050187450 tw3494116879691082483 tw16741973841700412949 tw11580365850332459291 tw2151356639698034047 tw12097560723948201477 tw10347264655065141311 tw2199547996591033642 tw14241844327448084012 tw9332875280965699804 tw11919414575140332203 tw13716096132092768087 tw3308337305401820407 tw2574766007877807076 tw5790929256384897043 tw6768864538819980586 tw13878970595311909831 tw18367222622905154916 tw12241057070487134160 tw3375314649392617700 tw13795656009709530746 tw15498641989619851107 tw4914641331644877731 tw3241438068063061137 tw14705895431930758104 tw8076380614926842561 tw17539723023735519034 tw15333919940806101036 tw16276792895436102667 tw14491154531807850795 tw12326359471850558685 tw3939851417663801902 tw16605669303086788682 tw5626611526282847577 tw9617676395834620736 tw4303782728613348432 tw18219953791469386812 tw8633739340782415022 tw8613764758376642885 tw17585557598478710187 tw14218933617598211451 tw2580956523281856985 tw17226720622524393179 tw16225625566275187485 tw12363713313049262489 tw8041478193250758637 tw8196771205487805014 tw4870551638327556601 tw5847066410695029405 tw15929824323723412705 tw6921545644569229830 tw17184884589390989683 tw15078225690985869820 tw3671155126033120692 tw6975676859730614975 tw17703855127340217636 tw10865358650005474015 tw4540809336439841637 tw11662972528421352850 tw13085262593178629683 tw10845884260621927505 tw7534782205462824735 tw12507937783739511465 tw8560557986843885882 tw10111381613126581446 tw16956513330005794612 tw2228588444642782150 tw13535824311565571179 tw2155681666219902635 tw7774702929428434959 tw17288041134422375780 tw11213440367687179864 tw9764538813279258299 tw10154539000869670690 tw16507256311492967125 tw1234707033824207685 tw7980159957932133409 tw3281618277453753381 tw14753408204443204738 tw7709888068612248569 tw3143704314427415949 tw5752819755105207699 tw2180840666491703825 tw17250619104677292360 tw10203684037286544240 tw18300715251991225013 tw15065368462481379779 tw3220326163096767585 tw7704691602138834505 tw11710626858566120137 tw11023035454196090013 tw5964839915080216949 tw7501021642690698452 tw12293714268074536582 tw5645415442050951533 tw1818774806754808061 tw2174737194104834484 tw9240561240670684175 tw10074772981412729510 tw6030445437244713641 tw6638802537922369563 tw15494874468085828970 tw6688123083235117753 tw3558071148505490053 tw5470188930314649780 tw9528693655167768646 tw15727346287990517046 tw5106908642860336890 tw3971080462302832621 tw14658755431060478576 tw6197699252712194131 tw16799050257167447462 tw16158769510939247545 tw15975211444157856074 tw12581415215989786602 tw6283590419341182875 tw10578577284651058104 tw9690157870204634587 tw4958900822853692578 tw10338799906374340439 tw9379392882940132010 tw13409725385839943159 tw14660272406590070806 tw18120150860071905267 tw7362049255835627394 tw848438045302811178 tw9636447215620356027 tw10573504567434310398 tw830364488135455289 tw9099381112742578365 tw8073021975992549090 tw18162477422969189560 tw12644035083294853348 tw4816138426610357364 tw5953773148925589958 tw3232283455609344184 tw13625748870780764173 tw3569555480979707049 tw7325350700790623208 tw8415068695738292235 tw15246586745850064887 tw10755183848386801422 tw15286844531295036132 tw15880108180975264034 tw17147132792585022821 tw15171134380038349832 tw16127785776397938984 tw2057468188488237358 tw8348771996729525093 tw12451857290477920982 tw6667218981064918114 tw192286004520069695 tw16540324704925316890 tw1323929401952016142 tw1909027763185931907 tw14803851733404486220 tw2559587511588157203 tw13773054484205452238 tw7322467937266634130 tw15266902769207520201 tw10744939543134423214 tw3365135598272090991 tw6757466526973194343 tw14779718676703965830 tw9378322445409469538 tw8189922227411691909 tw7964221428093713298 tw1107918516678203153 tw9281600840444401543 tw5763350227741770212 tw14812680615419503219 tw17456158935344665441 tw207515157477725147 tw18430165748786193679 tw14009542565998396254 tw1064165729072110444 tw5974045090363531755 tw10658604400020225460 tw4075947244024838512 tw9101380714416561485 tw7323134428583587640 tw13179822126595573352 tw3550807202635552956 tw11984718571620129037 tw15762588109275551243 tw13684677523099049059 tw13737754125177503402 tw4821749454712526255 tw2505926692305280564 tw78256369204797595 tw1430795160298829115 tw11285499522897092057 tw5675288036599337457 tw9446942023638569587 tw6705594898454736338 tw12499805415463371285 tw15198089702178200837 tw7528539669142168133 tw9319403239716040471 tw14707792145733196072 tw10208514053571675583 tw15806844509881720292 tw5218072348364262964 tw16758168206582476084 tw8830679389301761666 tw11719190344824238538 tw7676564787584280132 tw6161095545940003939 tw13105848756949917085 tw2059792195767062029 tw8293858311182087343 tw239482697126479162 tw10792511392681612363 tw10064083830517972754 tw12692847872384889700 tw5590103698060786259 tw5840348592928812063 tw12358043570359825365 tw12510581446748773453 tw17088492207897779516 tw12787539326566696038 tw3189018394980247209 tw7969044061694247339 tw114087037550490516 tw10157716017869277221 tw9885399290606965069 tw13662910573948811427 tw7904068077275698150 tw1856340978178807177 tw7974046204969487992 tw1073381234223831841 tw6339890379484662558 tw10634356342167551062 tw17853145024934415003 tw2494949084888805070 tw15298963181141617207 tw14730569766664899878 tw9318251127371029103 tw17854077494924010543 tw2428897939724247379 tw208874137486116160 tw14373801374899143309 tw8420607589340203826 tw11676618951677432368 tw3143462695135919463 tw15736652102079653273 tw8810763817334229401 tw3077433398512765715 tw10937980924578597430 tw17574786174193089921 tw16169998840687326905 tw7203125441909672161 tw2402037549830076858 tw3574541090721115471 tw612988453904859340 tw16039826586454648378 tw14033646164465324175 tw5867786806877755691 tw12843804022705943623 tw12789068698907837626 tw1034846458420128454 tw8238680424975526016 tw16341817284074492245 tw457444237802320137 tw13434908729483718259 tw9147013094050291211 tw2834860652161073729 tw1827138812879217086 tw4629666242181404412 tw2580694367964108104 tw8061835282524145042 tw445898962027445900 tw7858409386708959566 tw9216481751046067785 tw13585834660437937720 tw7227765763198727983 tw15795536643262463260 tw14543339569688481121 tw7061565980824732498 tw15849204094519819196 tw15536217610082368728 tw671515373711388792 tw17648573900388239448 tw10790979326695250693 tw1159755837879613066 tw17670615028710330663 tw11804176703517452544 tw13829824091878519853 tw17783401218549133112 tw13594766036083463928 tw8162104711628240030 tw8624873356653249624 tw1537650937738378567 tw15859994226122130133 tw8638599591332323493 tw6509498201354648430 tw6746107655127975215 tw5804616191313160772 tw12747533814861573457 tw4468041217006510877 tw13142096965554018577 tw2771852380274592580 tw9120300440065645214 tw16065339757116161618 tw5465292474607119869 tw823901050323319359 tw2304796274458080240 tw4330129661806372967 tw6426788757658044940 tw15471477005253047379 tw16251899654632387728 tw16659162289180522305 tw10231465526059277798 tw13878238592946305105 tw14917946330775840693 tw14706039147101672148 tw7863410476437597059 tw12191888257330220818 tw2671266519480873570 tw9655326472949980211 tw6310477428666232515 tw14342315772003732201 tw4095954767395658757 tw10362471366208647853 tw15299894342594765019 tw4542762271652216970 tw7696704231040143162 tw4527869187348126540 tw4823090288851798634 tw15860144183717641580 tw2799226094926672380 tw15388867057850964156 tw4005100851319081575 tw9285070827610903445 tw1544925576840522277 tw10358381538926957754 tw9591819025072828390 tw11078962785780504980 tw15508990853318343097 tw4963712054860081010 tw4308489056132302073 tw5516829828992639571 tw16390635060178966046 tw9640600311738180125 tw8390290003611916200 tw13893063698113889137 tw16322844100027439675 tw6469772918380414797 tw3731130486143372590 tw13333757634495614799 tw3994958744247831281 tw15374797896403415596 tw15225040149546299091 tw7828944584509606861 tw14559448612840754677 tw98025845545100991 tw53601729619393991 tw2749341332721673403 tw1109429595603174595 tw11090188100081907610 tw11037964070447672641 tw3994156321000285140 tw2405057755371558315 tw7550521717060002196 tw2539822337167377413 tw7504494910511403735 tw12932671316465443054 tw1599672985869706852 tw8521374027061517331 tw11578122451482739679 tw639168360357155118 tw8228408275721406942 tw16582150293393381613 tw339053649086961033 tw18093065955277071321 tw2243453438361144898 tw10258973046285152348 tw6362338696369896690:True)
open PySem PySem.W PyProof.Rows
set_option maxHeartbeats 0 in
theorem PySem.Challenge.cw_dicefights_s01_answers_holds : PySem.Challenge.rw_dicefights_s01_answers.Holds := by
  w_on; k_headS; (case hw => exact ⟨[.list [.int 7, .int 1, .int 1]], by decide +kernel, by decide +kernel⟩)
  k_fillS
  refine L2.Xb (r := PySem.Challenge.rw_dicefights_s01_answers) (k := 13) (CX := L2.CX0) (ps := ["calls"]) (sp := Fd.LM) (by decide +kernel) rfl rfl ⟨rfl, by decide, by decide⟩ (fun w h Y => PySem.W.kIn_of Y) ?F ?S (fun _ _ _ _ z => z)
  case F =>
    intro w mg fa h Y KX G hmg
    refine Fd.jk KX hmg ?tf ?tc ?te ?tk
    case tf =>
      refine' ⟨Fd.AW Fd.MV ?_ ?_ ?_, PySem.W.mg_of KX G ?_, Fd.AW Fd.Lc ?_ ?_ ?_, PySem.W.mg_of KX G ?_, Fd.AW Fd.OH ?_ ?_ ?_, PySem.W.mg_of KX G ?_, Fd.AW Fd.Xv ?_ ?_ ?_, PySem.W.mg_of KX G ?_, Fd.AW Fd.cH ?_ ?_ ?_, PySem.W.mg_of KX G ?_, Fd.AW Fd.WY ?_ ?_ ?_, PySem.W.mg_of KX G ?_, Fd.AW Fd.RZ ?_ ?_ ?_, PySem.W.mg_of KX G ?_, Fd.AW Fd.Ra ?_ ?_ ?_, PySem.W.mg_of KX G ?_, Fd.AW Fd.OI ?_ ?_ ?_, PySem.W.mg_of KX G ?_, Fd.AW Fd.QI ?_ ?_ ?_, PySem.W.mg_of KX G ?_, Fd.AW Fd.Ud ?_ ?_ ?_, PySem.W.mg_of KX G ?_, Fd.AW Fd.NI ?_ ?_ ?_, PySem.W.mg_of KX G ?_, Fd.AW Fd.QJ ?_ ?_ ?_, PySem.W.mg_of KX G ?_, Fd.AW Fd.Ue ?_ ?_ ?_, PySem.W.mg_of KX G ?_, Fd.AW Fd.Ug ?_ ?_ ?_, PySem.W.mg_of KX G ?_, Fd.AW Fd.Rb ?_ ?_ ?_, PySem.W.mg_of KX G ?_, Fd.AW Fd.Uh ?_ ?_ ?_, PySem.W.mg_of KX G ?_, Fd.AW Fd.WZ ?_ ?_ ?_, PySem.W.mg_of KX G ?_, Fd.AW Fd.QK ?_ ?_ ?_, PySem.W.mg_of KX G ?_, Fd.AW Fd.OJ ?_ ?_ ?_, PySem.W.mg_of KX G ?_, Fd.AW Fd.Ui ?_ ?_ ?_, PySem.W.mg_of KX G ?_, Fd.AW Fd.Uj ?_ ?_ ?_, PySem.W.mg_of KX G ?_, Fd.AW Fd.Uk ?_ ?_ ?_, PySem.W.mg_of KX G ?_, Fd.AW Fd.QL ?_ ?_ ?_, PySem.W.mg_of KX G ?_, Fd.AW Fd.Rc ?_ ?_ ?_, PySem.W.mg_of KX G ?_, Fd.AW Fd.Ul ?_ ?_ ?_, PySem.W.mg_of KX G ?_, Fd.AW Fd.Um ?_ ?_ ?_, PySem.W.mg_of KX G ?_, Fd.AW Fd.Ku ?_ ?_ ?_, PySem.W.mg_of KX G ?_, Fd.AW Fd.NJ ?_ ?_ ?_, PySem.W.mg_of KX G ?_, Fd.AW Fd.Uo ?_ ?_ ?_, PySem.W.mg_of KX G ?_, Fd.AW Fd.Rf ?_ ?_ ?_, PySem.W.mg_of KX G ?_, Fd.AW Fd.OK ?_ ?_ ?_, PySem.W.mg_of KX G ?_, Fd.AW Fd.Rg ?_ ?_ ?_, PySem.W.mg_of KX G ?_, Fd.AW Fd.QM ?_ ?_ ?_, PySem.W.mg_of KX G ?_, Fd.AW Fd.OL ?_ ?_ ?_, PySem.W.mg_of KX G ?_, Fd.AW Fd.OM ?_ ?_ ?_, PySem.W.mg_of KX G ?_, Fd.AW Fd.QN ?_ ?_ ?_, PySem.W.mg_of KX G ?_, Fd.AW Fd.QO ?_ ?_ ?_, PySem.W.mg_of KX G ?_, Fd.AW Fd.Rh ?_ ?_ ?_, PySem.W.mg_of KX G ?_, Fd.AW Fd.Up ?_ ?_ ?_, PySem.W.mg_of KX G ?_, Fd.AW Fd.Uq ?_ ?_ ?_, PySem.W.mg_of KX G ?_, Fd.AW Fd.Ur ?_ ?_ ?_, PySem.W.mg_of KX G ?_, Fd.AW Fd.Us ?_ ?_ ?_, PySem.W.mg_of KX G ?_, Fd.AW Fd.Ut ?_ ?_ ?_, PySem.W.mg_of KX G ?_, Fd.AW Fd.Ri ?_ ?_ ?_, PySem.W.mg_of KX G ?_, Fd.AW Fd.KC ?_ ?_ ?_, PySem.W.mg_of KX G ?_, Fd.AW Fd.ON ?_ ?_ ?_, PySem.W.mg_of KX G ?_, Fd.AW Fd.Rj ?_ ?_ ?_, PySem.W.mg_of KX G ?_, Fd.AW Fd.Ld ?_ ?_ ?_, PySem.W.mg_of KX G ?_, Fd.AW Fd.QP ?_ ?_ ?_, PySem.W.mg_of KX G ?_, Fd.AW Fd.QQ ?_ ?_ ?_, PySem.W.mg_of KX G ?_, Fd.AW Fd.QR ?_ ?_ ?_, PySem.W.mg_of KX G ?_⟩
      all_goals (try (first | k_is | kernel_rfl))
    case tc =>
      refine' ⟨⟨?_, ?_, ?_, ?_⟩, ⟨?_, ?_, ?_, ?_⟩, PySem.W.mg_of KX G ?_, Fd.Cv ?_, Fd.AW Fd.QS ?_ ?_ ?_, Fd.AW Fd.KD ?_ ?_ ?_, ⟨?_, ?_, ?_⟩, ⟨?_, ?_, ?_, ?_⟩, ⟨?_, ?_, ?_, ?_⟩, PySem.W.mg_of KX G ?_, Fd.Cv ?_, Fd.Cv ?_, Fd.AW Fd.QT ?_ ?_ ?_, Fd.AW Fd.OO ?_ ?_ ?_, ⟨?_, ?_, ?_⟩, Fd.AW Fd.Le ?_ ?_ ?_, ⟨?_, ?_, ?_⟩, Fd.AW Fd.Iy ?_ ?_ ?_, ⟨?_, ?_, ?_⟩, Fd.AW Fd.KG ?_ ?_ ?_, ⟨?_, ?_, ?_⟩, ⟨?_, ?_, ?_, ?_⟩, ⟨?_, ?_, ?_, ?_⟩, PySem.W.mg_of KX G ?_, Fd.Cv ?_, Fd.Cv ?_, Fd.AW Fd.QU ?_ ?_ ?_, Fd.AW Fd.QV ?_ ?_ ?_, ⟨?_, ?_, ?_⟩, Fd.AW Fd.MW ?_ ?_ ?_, ⟨?_, ?_, ?_⟩, Fd.AW Fd.NK ?_ ?_ ?_, ⟨?_, ?_, ?_⟩, Fd.AW Fd.NL ?_ ?_ ?_, ⟨?_, ?_, ?_⟩, ⟨?_, ?_, ?_, ?_⟩, ⟨?_, ?_, ?_, ?_⟩, PySem.W.mg_of KX G ?_, Fd.Cv ?_, Fd.Cv ?_, Fd.Cv ?_, Fd.Cv ?_, Fd.Cv ?_, Fd.AW Fd.Uu ?_ ?_ ?_, Fd.AW Fd.Uv ?_ ?_ ?_, ⟨?_, ?_, ?_⟩, Fd.AW Fd.OP ?_ ?_ ?_, ⟨?_, ?_, ?_⟩, Fd.AW Fd.QW ?_ ?_ ?_, ⟨?_, ?_, ?_⟩, Fd.AW Fd.QX ?_ ?_ ?_, ⟨?_, ?_, ?_⟩, ⟨?_, ?_, ?_, ?_⟩, ⟨?_, ?_, ?_, ?_⟩, PySem.W.mg_of KX G ?_, Fd.Cv ?_, Fd.Cv ?_, Fd.AW Fd.Rk ?_ ?_ ?_, ⟨?_, ?_, ?_, ?_⟩, ⟨?_, ?_, ?_, ?_⟩, PySem.W.mg_of KX G ?_, Fd.Cv ?_, Fd.Cv ?_, Fd.AW Fd.Wa ?_ ?_ ?_, Fd.AW Fd.Uw ?_ ?_ ?_, ⟨?_, ?_, ?_⟩, ⟨?_, ?_, ?_, ?_⟩, ⟨?_, ?_, ?_, ?_⟩, PySem.W.mg_of KX G ?_, Fd.Cv ?_, Fd.Cv ?_, Fd.Cv ?_, Fd.Cv ?_, Fd.AW Fd.Ux ?_ ?_ ?_, Fd.AW Fd.OQ ?_ ?_ ?_, ⟨?_, ?_, ?_⟩, Fd.AW Fd.Lf ?_ ?_ ?_, ⟨?_, ?_, ?_⟩, ⟨?_, ?_, ?_, ?_⟩, ⟨?_, ?_, ?_, ?_⟩, PySem.W.mg_of KX G ?_, Fd.Cv ?_, Fd.Cv ?_, Fd.AW Fd.Rl ?_ ?_ ?_, Fd.AW Fd.Kv ?_ ?_ ?_, ⟨?_, ?_, ?_⟩, Fd.AW Fd.Iz ?_ ?_ ?_, ⟨?_, ?_, ?_⟩, Fd.AW Fd.MX ?_ ?_ ?_, ⟨?_, ?_, ?_⟩, Fd.AW Fd.QY ?_ ?_ ?_, ⟨?_, ?_, ?_⟩, Fd.AW Fd.Lg ?_ ?_ ?_, ⟨?_, ?_, ?_⟩, ⟨?_, ?_, ?_, ?_⟩, ⟨?_, ?_, ?_, ?_⟩, PySem.W.mg_of KX G ?_, Fd.Cv ?_, Fd.AW Fd.Uy ?_ ?_ ?_, ⟨?_, ?_, ?_, ?_⟩, ⟨?_, ?_, ?_, ?_⟩, PySem.W.mg_of KX G ?_, Fd.Cv ?_, Fd.Cv ?_, Fd.AW Fd.QZ ?_ ?_ ?_, Fd.AW Fd.Lh ?_ ?_ ?_, ⟨?_, ?_, ?_⟩, Fd.AW Fd.Ig ?_ ?_ ?_, ⟨?_, ?_, ?_⟩, Fd.AW Fd.Li ?_ ?_ ?_, ⟨?_, ?_, ?_⟩⟩
      all_goals (try (first | k_is | kernel_rfl))
    case te =>
      refine' ⟨PySem.W.mg_of KX G ?_, ?_, PySem.W.mg_of KX G ?_, ?_, PySem.W.mg_of KX G ?_, ?_, PySem.W.mg_of KX G ?_, ?_, PySem.W.mg_of KX G ?_, ?_, PySem.W.mg_of KX G ?_, ?_, PySem.W.mg_of KX G ?_, ?_, PySem.W.mg_of KX G ?_, ?_, PySem.W.mg_of KX G ?_, ?_, ?_, ?_, ?_, ?_, ?_, ?_, ?_, ?_, ?_, ?_, ?_, ?_, ?_, ?_, ?_, ?_, ?_, ?_, ?_, ?_, ?_, ?_, ?_, ?_, ?_, ?_, ?_, ?_, ?_, ?_, ?_, ?_, ?_, ?_, ?_, ?_⟩
      all_goals (try (first | k_is | kernel_rfl))
    case tk =>
      refine' ⟨Fd.CB KX G ?_, Fd.CB KX G ?_, Fd.CB KX G ?_, Fd.CB KX G ?_, Fd.CB KX G ?_, Fd.CB KX G ?_, Fd.CB KX G ?_, Fd.CB KX G ?_, Fd.CB KX G ?_, Fd.CB KX G ?_, Fd.CB KX G ?_, Fd.CB KX G ?_, Fd.CB KX G ?_, PySem.W.mg_of KX G ?_, PySem.W.mg_of KX G ?_, PySem.W.mg_of KX G ?_, ?D, ?F, ?O, PySem.W.mg_none_of KX G ?_, PySem.W.mg_none_of KX G ?_, PySem.W.mg_none_of KX G ?_, PySem.W.mg_none_of KX G ?_, PySem.W.mg_none_of KX G ?_, PySem.W.mg_none_of KX G ?_, PySem.W.mg_none_of KX G ?_, PySem.W.mg_none_of KX G ?_, PySem.W.mg_none_of KX G ?_, PySem.W.mg_none_of KX G ?_, PySem.W.mg_none_of KX G ?_, PySem.W.mg_none_of KX G ?_, PySem.W.mg_none_of KX G ?_, PySem.W.mg_none_of KX G ?_⟩
      (case D => refine' Fd.Xw rfl ?l ?e ?d ?t ?n; (case l => k_is); (case e => exact ⟨rfl, rfl, rfl⟩); (case d => exact rfl); (case t => exact rfl); (case n => decide))
      (case F => refine' Fd.Xw rfl ?l ?e ?d ?t ?n; (case l => k_is); (case e => exact ⟨rfl, rfl, rfl⟩); (case d => exact rfl); (case t => exact rfl); (case n => decide))
      (case O => refine' ⟨_, Fd.Xw rfl ?l ?e ?d ?t ?n, Fd.cG ?f⟩; (case l => k_is); (case e => exact ⟨rfl, rfl, rfl⟩); (case d => exact rfl); (case t => exact rfl); (case n => decide); (case f => kernel_rfl))
      all_goals (try (first | k_is | kernel_rfl))
  case S =>
    intro K H xs a hO hwi hask hx
    cases hx with
    | cons h1 h2 =>
      cases h2
      cases h1 with
      | lst hs ha =>
        have e := L2.Ye a.1 _ ha
        subst e
        obtain ⟨n, hn, hr⟩ := Fd.fK (cs := a.1) hask
        exact ⟨_, a.1, n, _, rfl, hs, hr, hn, fun p H' hp => .lst (L2.SqL.of hp) (L2.Yd _)⟩
