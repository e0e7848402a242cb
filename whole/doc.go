// Package whole has tests that ask all functions of the chapters the same: what the document promises of each of them.
package whole
