package braid

import (
	"strconv"
	"strings"

	"codend/api"
)

// The words of a line.
const (
	beginWord = "at"
	rightWord = "right"
	leftWord  = "left"
	upWord    = "up"
	downWord  = "down"
)

// maxDigits is how many digits MaxNumber has, which is the greatest number with as many.
const maxDigits = 9

// Print returns the string of a program.
func Print(l []Course) (string, api.Errno) {
	if err := CheckProgram(l); err != api.OK {
		return "", err
	}
	return strings.Join(transformed(l, Course.line), ""), api.OK
}

func (c Course) line() string {
	words := []string{beginWord, strconv.Itoa(c.At.X), strconv.Itoa(c.At.Y), wordOf(c.Right, rightWord, leftWord), wordOf(c.Up, upWord, downWord), strconv.Itoa(c.Bars)}
	return strings.Join(words, " ") + "\n"
}

func wordOf(is bool, yes, no string) string {
	if is {
		return yes
	}
	return no
}

// Parse returns the program of a string, and the index of the first line that is wrong.
func Parse(s string) ([]Course, int, api.Errno) {
	if len(s) > api.MaxLog {
		return nil, 0, api.ErrLong
	}
	var l []Course
	g := newLedger()
	for text := range strings.Lines(s) {
		c, ok := readCourse(text)
		if !ok {
			return nil, len(l), api.ErrSyntax
		}
		if err := g.enter(c); err != api.OK {
			return nil, len(l), err
		}
		l = append(l, c)
	}
	return l, 0, api.OK
}

// A slot is a place of a line: read takes the word that stands there, and reports whether it has its form.
type slot struct {
	read func(word string) bool
}

// readCourse reads the course of a line, and reports whether it has the form of one.
func readCourse(text string) (Course, bool) {
	var c Course
	slots := [...]slot{
		{read: keyword{beginWord}.read},
		{read: integer{&c.At.X}.read},
		{read: integer{&c.At.Y}.read},
		{read: choice{&c.Right, rightWord, leftWord}.read},
		{read: choice{&c.Up, upWord, downWord}.read},
		{read: integer{&c.Bars}.read},
	}
	text, ended := strings.CutSuffix(text, "\n")
	words := strings.Split(text, " ")
	if !ended || len(words) != len(slots) {
		return Course{}, false
	}
	for i, word := range words {
		if !slots[i].read(word) {
			return Course{}, false
		}
	}
	return c, true
}

// A keyword is a word that says nothing but that it is there.
type keyword struct {
	word string
}

func (k keyword) read(word string) bool {
	return word == k.word
}

// A choice is one of two words.
type choice struct {
	to      *bool
	yes, no string
}

func (c choice) read(word string) bool {
	*c.to = word == c.yes
	return word == c.yes || word == c.no
}

// An integer is a word of digits.
type integer struct {
	to *int
}

func (n integer) read(word string) bool {
	value, ok := readNumber(word)
	*n.to = value
	return ok
}

// readNumber accepts an integer only as it would be printed: so it has no leading zeros, no plus, and no minus before 0.
func readNumber(s string) (int, bool) {
	digits, isNegative := strings.CutPrefix(s, "-")
	if len(digits) > maxDigits {
		return 0, false
	}
	n := 0
	for _, r := range digits {
		if r < '0' || r > '9' {
			return 0, false
		}
		n = 10*n + int(r-'0')
	}
	if isNegative {
		n = -n
	}
	return n, strconv.Itoa(n) == s
}
