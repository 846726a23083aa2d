package token

import (
	"tympan/api"
	"tympan/char"
	"tympan/numtext"
	"tympan/quote"
)

// May reports whether some text contains the token, at whatever offset.
func May(t api.Token) bool {
	switch t.Kind {
	case api.TInt:
		return t.S == "" && t.N >= -api.MaxInt && t.N <= api.MaxInt
	case api.TFix:
		return t.S == "" && t.N >= -api.MaxFix && t.N <= api.MaxFix
	case api.TName:
		return t.N == 0 && mayStandAlone(t.S)
	case api.TLit, api.TNow:
		return t.N == 0 && mayName(t.S)
	case api.TString:
		return t.N == 0 && len(t.S) <= api.MaxString
	case api.TOpen, api.TClose, api.TLeft, api.TRight, api.TBegin, api.TEnd:
		return t.N == 0 && t.S == ""
	default:
		return false
	}
}

// Print returns the text of the tokens, separated by single blanks.
func Print(l []api.Token) (s string, e api.Errno) {
	for _, t := range l {
		if !May(t) {
			return "", api.ErrArg
		}
	}
	if len(l) > api.MaxTokens {
		return "", api.ErrLimit
	}
	var b []byte
	for i, t := range l {
		if i > 0 {
			b = append(b, ' ')
		}
		b = append(b, text(t)...)
		// Checked at each token, so that the text of many long strings is not written first.
		if len(b) > api.MaxText {
			return "", api.ErrLimit
		}
	}
	return string(b), api.OK
}

// mayName reports whether s is a name, such as may follow a slash.
func mayName(s string) bool {
	return len(s) <= api.MaxName && char.Regular(s, 0) == len(s)
}

// mayStandAlone reports whether s is a name without a slash before it: not empty, and not read as a number.
func mayStandAlone(s string) bool {
	if s == "" || !mayName(s) {
		return false
	}
	_, _, e := numtext.Read(s)
	return e == api.ErrForm
}

// text returns the text of a valid token.
func text(t api.Token) string {
	switch t.Kind {
	case api.TInt:
		return numtext.Int(t.N)
	case api.TFix:
		return numtext.Fix(t.N)
	case api.TName:
		return t.S
	case api.TLit:
		return "/" + t.S
	case api.TNow:
		return "//" + t.S
	case api.TString:
		return quote.Paren(t.S)
	default:
		return symbols[t.Kind-api.TOpen]
	}
}
