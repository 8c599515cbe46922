"""Use by texts: of deeds, questions, trees and histories, and a shell."""
