package schema

import "plenum/api"

// Match returns the first fault of lines that do not have the forms.
func Match(forms []api.Form, lines []api.Line) (api.Fault, api.Errno) {
	if e := Check(forms); e != api.OK {
		return api.Fault{}, e
	}
	return allKinds().matchLines(forms, lines, api.Fault{Code: api.ErrNone, Line: 1, Col: 1}), api.OK
}

// matchLines returns the first fault of lines for valid forms. lacking is the fault if there are too few lines.
func (k kinds) matchLines(forms []api.Form, lines []api.Line, lacking api.Fault) api.Fault {
	counts := map[string]int{}
	for _, l := range lines {
		i := Find(forms, l)
		if i < 0 {
			return faultOf(l, api.ErrUnknown)
		}
		f := forms[i]
		if counts[f.Word] == f.Most {
			return faultOf(l, api.ErrTooMany)
		}
		counts[f.Word]++
		if fault := k.matchLine(f, l); fault.Code != api.OK {
			return fault
		}
	}
	for _, f := range forms {
		if counts[f.Word] < f.Least {
			return lacking
		}
	}
	return api.Fault{}
}

// matchLine returns the first fault of a line, and of those that belong to it, for a valid form.
func (k kinds) matchLine(f api.Form, l api.Line) api.Fault {
	if i := k.misfit(f.Args, l.Tokens); i >= 0 {
		return api.Fault{Code: api.ErrSyntax, Line: l.At, Col: l.Tokens[i].At}
	}
	if l.Heading != (len(f.Kids) > 0) {
		return faultOf(l, api.ErrSyntax)
	}
	return k.matchLines(f.Kids, l.Kids, faultOf(l, api.ErrNone))
}

// faultOf returns a fault at a line.
func faultOf(l api.Line, e api.Errno) api.Fault {
	col := 1
	if len(l.Tokens) > 0 {
		col = l.Tokens[0].At
	}
	return api.Fault{Code: e, Line: l.At, Col: col}
}

// misfit returns the index of the first token behind the word that does not fit or is superfluous, or that of the last token if tokens are lacking, or -1.
func (k kinds) misfit(args []string, tokens []api.Token) int {
	next := 0
	for i, t := range tokens[1:] {
		if next == len(args) {
			return i + 1
		}
		name, repeated := splitArg(args[next])
		if found, _ := k.find(name); !found.fits(t) {
			return i + 1
		}
		if !repeated {
			next++
		}
	}
	if next == len(args) {
		return -1
	}
	if _, repeated := splitArg(args[next]); repeated {
		return -1
	}
	return len(tokens) - 1
}
