package core

import (
	"commonform/api"
	"commonform/forms"
)

func (k *converter) block(l []api.Form, s *scope) api.Core {
	wantCount(l, 1, anyNumber)
	want(l[0].Kind == api.FormSymbol, api.ErrForm)
	return k.blockNamed(l[0], l[1:], s)
}

func (k *converter) blockNamed(name api.Form, l []api.Form, s *scope) api.Core {
	n := k.number(ofBlocks)
	return api.Core{Op: api.CoreBlock, N: n, Kids: []api.Core{k.progn(l, s.with(ofBlock, name, n))}}
}

func (k *converter) returnFrom(l []api.Form, s *scope) api.Core {
	wantCount(l, 1, 2)
	want(l[0].Kind == api.FormSymbol, api.ErrForm)
	n, ok := s.named(ofBlock, l[0])
	want(ok, ErrScope)
	value := constant(forms.Nil())
	if len(l) > 1 {
		value = k.form(l[1], s)
	}
	return api.Core{Op: api.CoreReturn, N: n, Kids: []api.Core{value}}
}

func isTag(f api.Form) bool { return f.Kind == api.FormSymbol || f.Kind == api.FormInt }

func (k *converter) tagbody(l []api.Form, s *scope) api.Core {
	tags, segments := divide(l)
	made := api.Core{Op: api.CoreTagbody}
	for _, tag := range tags {
		n := k.number(ofTags)
		made.Vars = append(made.Vars, n)
		s = s.with(ofTag, tag, n)
	}
	for _, segment := range segments {
		made.Kids = append(made.Kids, k.progn(segment, s))
	}
	return made
}

// divide returns the tags, and the forms ahead of the first one and behind each.
func divide(l []api.Form) (tags []api.Form, segments [][]api.Form) {
	met := map[[2]string]bool{}
	segments = [][]api.Form{nil}
	for _, f := range l {
		if !isTag(f) {
			last := len(segments) - 1
			segments[last] = append(segments[last], f)
			continue
		}
		name := tagName(f)
		want(!met[name], api.ErrTwice)
		met[name] = true
		tags, segments = append(tags, f), append(segments, nil)
	}
	return tags, segments
}

// tagName returns the same for equal tags: integers have a home that no symbol has.
func tagName(f api.Form) [2]string {
	if f.Kind == api.FormInt {
		return [2]string{"\xff", f.Text} // no text of a form has this byte
	}
	return nameOf(f)
}

func (k *converter) goTo(l []api.Form, s *scope) api.Core {
	wantCount(l, 1, 1)
	want(isTag(l[0]), api.ErrForm)
	n, ok := s.named(ofTag, l[0])
	want(ok, ErrScope)
	return api.Core{Op: api.CoreGo, N: n}
}

func (k *converter) catch(l []api.Form, s *scope) api.Core {
	wantCount(l, 1, anyNumber)
	tag := k.form(l[0], s)
	return api.Core{Op: api.CoreCatch, Kids: []api.Core{tag, k.progn(l[1:], s)}}
}

func (k *converter) throw(l []api.Form, s *scope) api.Core {
	wantCount(l, 2, 2)
	return api.Core{Op: api.CoreThrow, Kids: k.kids(l, s)}
}

func (k *converter) protect(l []api.Form, s *scope) api.Core {
	wantCount(l, 1, anyNumber)
	form := k.form(l[0], s)
	return api.Core{Op: api.CoreProtect, Kids: []api.Core{form, k.progn(l[1:], s)}}
}

func (k *converter) progv(l []api.Form, s *scope) api.Core {
	wantCount(l, 2, anyNumber)
	kids := k.kids(l[:2], s)
	return api.Core{Op: api.CoreProgv, Kids: append(kids, k.progn(l[2:], s))}
}
